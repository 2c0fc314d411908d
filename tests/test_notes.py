"""Point 15: states as texts, and texts that no state is written as."""

import random
import unittest

from beatgrid.beats import at_first, run
from beatgrid.errors import NoText
from beatgrid.notes import read, written
from helper import KINDS, SIZES, Asking, is_state_of, runs, some_state

HUNDRED = 10 ** 100 - 1
TEXTS = (
    ("12/3/-", (((12, 3, None),),)),
    ("-/-/-", (((None, None, None),),)),
    ("0/0/0", (((0, 0, 0),),)),
    ("-1/-20/-", (((-1, -20, None),),)),
    ("-/-/-1", (((None, None, -1),),)),
    ("5/-/0 -7/8/-9", (((5, None, 0), (-7, 8, -9)),)),
    ("5/-/0\n-7/8/-9", (((5, None, 0),), ((-7, 8, -9),))),
    ("1/2/3 4/5/6\n7/8/9 10/100/-", (((1, 2, 3), (4, 5, 6)), ((7, 8, 9), (10, 100, None)))),
    ("9" * 100 + "/-1" + "0" * 99 + "/1", (((HUNDRED, -10 ** 99, 1),),)),
)


class Written(unittest.TestCase):
    def test_texts(self):
        for text, state in TEXTS:
            self.assertEqual(written(state), text)

    def test_states_at_first(self):
        self.assertEqual(written(at_first(("product", 2, 3))), "0/-/- 0/-/- 0/-/-\n0/-/- 0/-/- 0/-/-")
        self.assertEqual(written(at_first(("paths", 3, 1))), "-/-/-\n-/-/-\n-/-/-")
        self.assertEqual(written(at_first(("sorting", 6, 6))), "\n".join([" ".join(["-/-/-"] * 6)] * 6))

    def test_numbers_of_all_lengths(self):
        for many in range(1, 300):
            for figures in ("1" + "0" * (many - 1), "9" * many, "1234567890" * (many // 10) + "5"):
                self.assertEqual(written((((int(figures), -int(figures), None),),)), f"{figures}/-{figures}/-")

    def test_numbers_longer_than_python_writes_at_once(self):
        for figures in (9000, 4301, 4300):
            self.assertEqual(
                written((((10 ** (figures - 1), -10 ** (figures - 1), 0),),)),
                "1" + "0" * (figures - 1) + "/-1" + "0" * (figures - 1) + "/0")


class Read(Asking):
    def test_texts(self):
        for text, state in TEXTS:
            self.assertEqual(read(text), state)

    def test_what_is_written_is_read_to_the_same_state(self):
        chance = random.Random(60)
        for kind in KINDS:
            for rows in range(1, 7):
                for columns in range(1, 7):
                    for _ in range(5):
                        state = some_state(chance, (kind, rows, columns))
                        told = read(written(state))
                        self.assertEqual(told, state)
                        self.assertTrue(is_state_of((kind, rows, columns), told))
                        self.assertEqual(written(told), written(state))

    def test_states_of_runs(self):
        for net, feed, beats in runs():
            for state in [at_first(net)] + run(net, feed, beats)[-2:]:
                self.assertEqual(read(written(state)), state)

    def test_a_hundred_figures_and_one_more(self):
        for figures in ("9" * 100, "1" + "0" * 99, "1234567890" * 10):
            number = int(figures)
            self.assertEqual(read(f"{figures}/-{figures}/-"), (((number, -number, None),),))
            for more in (figures + "0", "1" + figures, figures * 2, figures * 90):
                for text in (f"{more}/1/1", f"1/{more}/1", f"1/1/-{more}", f"-/-/- -/-{more}/-"):
                    self.refuses(NoText, read, text)

    def test_each_part_in_each_place(self):
        for part, thing in (("-", None), ("0", 0), ("-1", -1), ("10", 10), ("9" * 100, HUNDRED)):
            self.assertEqual(read(f"{part}/1/2"), (((thing, 1, 2),),))
            self.assertEqual(read(f"1/{part}/2 3/4/5"), (((1, thing, 2), (3, 4, 5)),))
            self.assertEqual(read(f"3/4/5\n1/2/{part}"), (((3, 4, 5),), ((1, 2, thing),)))

    def test_parts_that_are_none(self):
        for part in (
            "", "00", "01", "007", "-0", "-00", "-01", "+1", "+0", "+", "--", "--1", "-+1", "1-", "-1-", "1+", "- 1",
            "1.0", "1e3", "0x1", "1_000", "_1", "1_", "a", "None", "null", "'1'", "(1)", "1,000", "*", "~", ".", "=",
            "0" * 100, "0" * 101, "-" + "0" * 100, "\\", "1\r", "\t1", "\u0661", "\u00b2", "\uff11", "-\u0661",
            "\u22121",
        ):
            with self.subTest(part=part):
                for text in (f"{part}/1/2", f"1/{part}/2", f"1/2/{part}", f"1/2/3 4/{part}/5", f"1/2/3\n4/5/{part}"):
                    self.refuses(NoText, read, text)

    def test_strokes_too_many_or_too_few(self):
        for word in ("", "1", "1/2", "1/2/", "/1/2", "1//2", "1/2/3/", "/1/2/3", "1//2/3", "1/2/3/4", "/", "//", "///",
                     "-", "-/-", "--/-", "-/-/-/-", "1 2 3", "1|2|3", "1\\2\\3"):
            self.refuses(NoText, read, word)
            self.refuses(NoText, read, f"1/2/3 {word}")
            self.refuses(NoText, read, f"{word} 1/2/3")
            self.refuses(NoText, read, f"1/2/3\n{word}")
            self.refuses(NoText, read, f"{word}\n1/2/3")

    def test_blanks_and_line_ends_too_many_or_too_few(self):
        for text in (
            " 1/2/3", "1/2/3 ", "1/2/3  4/5/6", "1/2/34/5/6", "1/2/3 \n4/5/6", "1/2/3\n 4/5/6", "1 /2/3", "1/ 2/3",
            "\n", "\n\n", " ", "  ", "1/2/3\n", "\n1/2/3", "1/2/3\n\n4/5/6", "1/2/3\r\n4/5/6", "1/2/3\r4/5/6",
            "1/2/3\t4/5/6", "1/2/3\x0b4/5/6", "1/2/3\x0c4/5/6", "1/2/3\x1c4/5/6", "1/2/3\u20284/5/6",
            "1/2/3\u00a04/5/6",
            "1/2/3 4/5/6\n7/8/9 1/2/3\n", "1/2/3,4/5/6", "1/2/3;4/5/6", "1/2/3\\n4/5/6",
        ):
            with self.subTest(text=text):
                self.refuses(NoText, read, text)

    def test_lines_of_unlike_count_of_words(self):
        word = "1/-/3"
        for counts in (
            (1, 2), (2, 1), (2, 2, 1), (1, 2, 2), (2, 1, 2), (3, 1, 2), (6, 6, 6, 6, 6, 5), (5, 6, 6, 6, 6, 6),
        ):
            self.refuses(NoText, read, "\n".join([" ".join([word] * count) for count in counts]))

    def test_1_to_6_lines_and_words_and_a_seventh(self):
        word, cell = "0/-/-5", (0, None, -5)
        for rows in range(1, 9):
            for columns in range(1, 9):
                text = "\n".join([" ".join([word] * columns)] * rows)
                if rows <= 6 and columns <= 6:
                    self.assertEqual(read(text), ((cell,) * columns,) * rows)
                else:
                    self.refuses(NoText, read, text)

    def test_long_texts(self):
        for text in (
            "1" * 30000, "-" * 30000, "/" * 30000, " " * 30000, "\n" * 30000, "1/2/3 " * 5000, "1/2/3\n" * 5000,
            "1/2/" + "3" * 29996, "-/-/-" + " -/-/-" * 4999, "-/-/-" + "\n-/-/-" * 4999,
        ):
            self.refuses(NoText, read, text)

    def test_each_text_one_sign_off(self):
        """What is read is written as the very text; any other text is refused."""
        chance = random.Random(61)
        right = 0
        for _ in range(3000):
            rows, columns = chance.choice(SIZES)
            text = written(some_state(chance, ("paths", rows, columns)))
            at = chance.randrange(len(text) + 1)
            sign = chance.choice("0123456789-/ \n+a.")
            ahead, behind = text[:at], text[at + 1:]
            other = chance.choice((ahead + sign + text[at:], ahead + sign + behind, ahead + behind))
            try:
                state = read(other)
            except NoText:
                continue
            right += 1
            self.assertEqual(written(state), other)
        self.assertGreater(right, 100)


if __name__ == "__main__":
    unittest.main()
