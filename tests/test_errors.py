import unittest

from beatgrid.errors import (
    GridError, NoCount, NoFault, NoFeed, NoNet, NoSchedule, NoTable, NoText,
)

PLAIN = (NoNet, NoFeed, NoCount, NoTable, NoFault, NoText)


def each_error():
    return [refusal("why") for refusal in PLAIN] + [NoSchedule(("missing", (0, 0, 0)))]


class Errors(unittest.TestCase):
    def test_each_is_a_grid_error_and_a_value_error(self):
        for error in each_error():
            self.assertIsInstance(error, GridError)
            self.assertIsInstance(error, ValueError)

    def test_grid_error_is_a_value_error(self):
        self.assertEqual(GridError.__bases__, (ValueError,))

    def test_none_is_under_another_one(self):
        for error in each_error():
            of = [refusal for refusal in PLAIN + (NoSchedule,) if isinstance(error, refusal)]
            self.assertEqual(of, [type(error)])
            self.assertEqual(type(error).__bases__, (GridError,))

    def test_each_is_defined_in_the_file_of_the_interface(self):
        for refusal in PLAIN + (NoSchedule, GridError):
            self.assertEqual(refusal.__module__, "beatgrid.errors")

    def test_no_schedule_has_its_reason(self):
        for reason in (("none", 0, 1), ("twice", 2, 0), ("early", 3, 1), ("missing", (1, 0, 2))):
            self.assertEqual(NoSchedule(reason).reason, reason)


if __name__ == "__main__":
    unittest.main()
