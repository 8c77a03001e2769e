"""The errors: each refusal's class, and what stands above it (point 2 and the interface)."""

import unittest

from rowrules import errors

NAMES = ["NoRule", "NoRow", "NoSuch", "NoWindow", "TooWide", "NoWayBack", "NoWeights", "NoText", "NoName", "NoAsk"]


class TestErrors(unittest.TestCase):
    def test_row_error_stands_straight_under_value_error(self):
        self.assertEqual(errors.RowError.__bases__, (ValueError,))

    def test_each_stands_straight_under_row_error(self):
        for name in NAMES:
            with self.subTest(name):
                self.assertEqual(getattr(errors, name).__bases__, (errors.RowError,))

    def test_each_is_a_class_of_its_own(self):
        self.assertEqual(len({getattr(errors, name) for name in NAMES}), len(NAMES))

    def test_each_is_raised_and_taken_as_a_row_error(self):
        for name in NAMES:
            with self.subTest(name), self.assertRaises(errors.RowError):
                raise getattr(errors, name)(0)

    def test_no_row_has_its_at(self):
        for at in (0, 1, 7, 300):
            self.assertEqual(errors.NoRow(at).at, at)

    def test_each_no_row_has_an_at_of_its_own(self):
        first = errors.NoRow(3)
        errors.NoRow(5)
        self.assertEqual(first.at, 3)


if __name__ == "__main__":
    unittest.main()
