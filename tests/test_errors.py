"""The refusals, as the interface lists them."""

import unittest

from rowveil import errors
from rowveil.errors import NoRight, VeilError

PLAIN = [
    "TooMany", "NoAsk", "NoRow", "NotLet", "Taken", "Full", "NoCondition", "NoGround", "NoRule", "Twice",
    "NotThere", "NoView", "InUse", "NoTable", "NoUser", "NoneOpen", "TooDeep", "NoDeeds", "NoText", "NoLine",
]


class ErrorsTest(unittest.TestCase):
    def test_any_refusal_is_a_value_error(self):
        self.assertEqual(VeilError.__bases__, (ValueError,))

    def test_each_stands_straight_under_veil_error(self):
        for name in [*PLAIN, "NoRight"]:
            with self.subTest(name):
                self.assertEqual(getattr(errors, name).__bases__, (VeilError,))

    def test_no_two_are_one(self):
        self.assertEqual(len({getattr(errors, name) for name in [*PLAIN, "NoRight", "VeilError"]}), 22)

    def test_each_is_raised_and_caught_as_itself_only(self):
        for name in PLAIN:
            for other in PLAIN:
                with self.subTest(name=name, other=other):
                    refusal = getattr(errors, name)("why")
                    self.assertEqual(isinstance(refusal, getattr(errors, other)), name == other)

    def test_no_right_has_its_field(self):
        refusal = NoRight("staff")
        self.assertEqual(refusal.name, "staff")
        with self.assertRaises(VeilError):
            raise refusal


if __name__ == "__main__":
    unittest.main()
