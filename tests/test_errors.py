"""The classes of refusals."""

import unittest

from gatepapers import errors

NAMES = ("NoText", "Twice", "NoName", "NoWidth", "TooGreat", "Unlike", "NotPlain", "NoShelf")


class Errors(unittest.TestCase):
    def test_gate_error_stands_under_value_error(self):
        self.assertEqual(errors.GateError.__bases__, (ValueError,))

    def test_each_stands_straight_under_gate_error(self):
        for name in NAMES:
            self.assertEqual(getattr(errors, name).__bases__, (errors.GateError,), name)

    def test_none_stands_under_another(self):
        for name in NAMES:
            for other in NAMES:
                self.assertEqual(issubclass(getattr(errors, name), getattr(errors, other)), name == other)

    def test_each_can_be_raised_and_taken(self):
        for name in NAMES:
            with self.assertRaises(errors.GateError):
                raise getattr(errors, name)("why")
