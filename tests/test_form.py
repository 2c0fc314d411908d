"""The form of the package: its folder, its interface, its imports, its sizes and its signs."""

import ast
import doctest
import pathlib
import re
import unittest

ROOT = pathlib.Path(__file__).resolve().parent.parent
PACKAGE = ROOT / "beatgrid"
FILES = sorted(PACKAGE.glob("*.py"))
INTERFACE = {
    "beats": {
        "at_first": ["net"], "beat": ["net", "state", "lefts", "tops"], "run": ["net", "feed", "beats"],
        "kept_in": ["state"],
    },
    "sums": {"told_by_sum": ["net", "feed", "beats"]},
    "made": {
        "feeds": ["one", "other"], "beats_for": ["one", "other"], "multiplied": ["one", "other"],
        "shortest": ["lengths"], "in_order": ["numbers"],
    },
    "judging": {
        "faulty": ["net", "feed", "beats", "faults"], "judged": ["net", "feed", "states"],
        "off_sum": ["net", "feed", "states"],
    },
    "folding": {
        "wrong": ["net", "beats", "schedule"], "folded_run": ["net", "feed", "beats", "schedule"],
        "folded": ["net", "beats", "workers"],
    },
    "notes": {"written": ["state"], "read": ["text"]},
}


def parsed(path):
    return ast.parse(path.read_text(encoding="utf-8"))


class Form(unittest.TestCase):
    def test_the_folder_holds_plain_python_files_only(self):
        for path in PACKAGE.iterdir():
            if path.name != "__pycache__":
                self.assertTrue(re.fullmatch(r"[a-z0-9_]+\.py", path.name), path.name)

    def test_each_function_of_the_interface_is_defined_in_its_file(self):
        for name, functions in INTERFACE.items():
            defined = {
                row.name: [arg.arg for arg in row.args.args]
                for row in parsed(PACKAGE / f"{name}.py").body if isinstance(row, ast.FunctionDef)
            }
            for function, arguments in functions.items():
                self.assertEqual(defined[function], arguments)

    def test_imports_come_from_the_package_alone(self):
        for path in FILES:
            for row in ast.walk(parsed(path)):
                self.assertNotIsInstance(row, ast.Import)
                if isinstance(row, ast.ImportFrom):
                    self.assertEqual(row.level, 0)
                    self.assertTrue((ROOT / (row.module.replace(".", "/") + ".py")).is_file(), row.module)

    def test_sizes_and_signs(self):
        for path in FILES:
            text = path.read_text(encoding="utf-8")
            lines = text.split("\n")
            self.assertLess(len(lines), 400)
            self.assertLessEqual(max(map(len, lines)), 120)
            self.assertTrue(re.fullmatch(r"[ -~\n]*", text), path.name)
            for row in ast.walk(parsed(path)):
                if isinstance(row, ast.FunctionDef):
                    self.assertLessEqual(row.end_lineno - row.lineno + 1, 40, row.name)

    def test_the_examples_of_the_readme(self):
        told = doctest.testfile(str(ROOT / "README.md"), module_relative=False)
        self.assertGreater(told.attempted, 0)
        self.assertEqual(told.failed, 0)


if __name__ == "__main__":
    unittest.main()
