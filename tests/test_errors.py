"""The error classes of the interface."""

import unittest

from bothreed import errors

REFUSALS = ["NoLetters", "NoPattern", "TooGreat", "NoText", "NoRoom"]


class Errors(unittest.TestCase):
    def test_pattern_error_stands_under_value_error(self):
        self.assertEqual(errors.PatternError.__bases__, (ValueError,))

    def test_each_stands_straight_under_pattern_error(self):
        for name in REFUSALS:
            self.assertEqual(getattr(errors, name).__bases__, (errors.PatternError,), name)

    def test_none_stands_under_another_one(self):
        for name in REFUSALS:
            for other in REFUSALS:
                if name != other:
                    self.assertFalse(issubclass(getattr(errors, name), getattr(errors, other)))

    def test_they_are_defined_in_this_file(self):
        for name in REFUSALS + ["PatternError"]:
            self.assertEqual(getattr(errors, name).__module__, "bothreed.errors")

    def test_they_can_be_raised_and_caught_as_value_error(self):
        for name in REFUSALS:
            with self.assertRaises(ValueError):
                raise getattr(errors, name)("why")


if __name__ == "__main__":
    unittest.main()
