"""The refusals of kincalls/errors.py."""

import unittest

from kincalls import errors

NAMES = (
    "NoFamily", "NotPlain", "NoName", "NoSex", "NoRow", "NoSpeech", "NotSure",
    "NoWord", "TooMany", "NoParent", "Taken", "Full", "NoDeed", "NoText",
)


class Errors(unittest.TestCase):
    def test_kin_error_is_a_value_error(self):
        self.assertEqual(errors.KinError.__bases__, (ValueError,))

    def test_each_refusal_stands_right_under_kin_error(self):
        for name in NAMES:
            with self.subTest(name):
                self.assertEqual(getattr(errors, name).__bases__, (errors.KinError,))

    def test_there_are_fourteen_unlike_refusals_and_no_others(self):
        self.assertEqual(len({getattr(errors, name) for name in NAMES}), 14)
        under = {error.__name__ for error in errors.KinError.__subclasses__()}
        self.assertEqual(under, set(NAMES))

    def test_each_is_defined_in_its_file(self):
        for name in NAMES + ("KinError",):
            self.assertEqual(getattr(errors, name).__module__, "kincalls.errors")

    def test_each_can_be_raised_and_caught(self):
        for name in NAMES:
            with self.subTest(name), self.assertRaises(errors.KinError):
                raise getattr(errors, name)("why")
