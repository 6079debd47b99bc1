"""The classes of fairbourse/errors.py."""

import unittest

from fairbourse import errors

NAMES = [
    "InvalidAmount", "InvalidWeights", "InvalidLine", "UnknownName", "DuplicateName", "InvalidTrade",
    "InvalidOrder", "UnknownOrder", "NotOwner", "WrongPhase", "OutOfBand", "HouseFallen", "MarginShort",
    "Unbalanced", "Overdrawn", "BrokenTape", "InvalidCommand",
]


class ErrorsTest(unittest.TestCase):
    def test_the_base_class_is_a_value_error(self):
        self.assertEqual(errors.BourseError.__bases__, (ValueError,))

    def test_each_class_is_directly_under_the_base_class(self):
        for name in NAMES:
            with self.subTest(name):
                error = getattr(errors, name)
                self.assertEqual(error.__name__, name)
                self.assertEqual(error.__bases__, (errors.BourseError,))
                self.assertEqual(error.__module__, "fairbourse.errors")

    def test_each_class_can_be_raised(self):
        for name in NAMES:
            with self.subTest(name), self.assertRaises(ValueError):
                raise getattr(errors, name)(3 if name == "InvalidLine" else "wording")

    def test_an_invalid_line_has_its_number(self):
        self.assertEqual(errors.InvalidLine(1).line, 1)
        self.assertEqual(errors.InvalidLine(12).line, 12)


if __name__ == "__main__":
    unittest.main()
