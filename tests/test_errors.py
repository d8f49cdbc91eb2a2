"""The error classes and their places under one another."""

import unittest

from threewards.errors import NoCut, NoPoint, NoRoom, NoTurn, TooMany, WardError

REFUSALS = (NoRoom, NoCut, NoPoint, NoTurn, TooMany)


class ErrorClasses(unittest.TestCase):
    def test_ward_error_stands_straight_under_value_error(self):
        self.assertEqual(WardError.__bases__, (ValueError,))

    def test_each_refusal_stands_straight_under_ward_error(self):
        for refusal in REFUSALS:
            with self.subTest(refusal=refusal.__name__):
                self.assertEqual(refusal.__bases__, (WardError,))

    def test_no_refusal_stands_under_another(self):
        for one in REFUSALS:
            for other in REFUSALS:
                with self.subTest(one=one.__name__, other=other.__name__):
                    self.assertEqual(issubclass(one, other), one is other)

    def test_each_has_its_name(self):
        self.assertEqual(WardError.__name__, "WardError")
        self.assertEqual([refusal.__name__ for refusal in REFUSALS],
                         ["NoRoom", "NoCut", "NoPoint", "NoTurn", "TooMany"])


if __name__ == "__main__":
    unittest.main()
