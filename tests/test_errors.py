"""The refusals: their names, and that each stands straight under CourtError."""

import unittest

from netcourt import errors
from netcourt.errors import CourtError, NoPlace

REFUSALS = ("NoName", "Twice", "SamePlace", "NoWidth", "NoTie", "TooMany", "NoText", "NoPlace", "NoClaim", "NoLine")


class TestErrors(unittest.TestCase):
    def test_court_error_is_a_value_error(self):
        self.assertEqual(CourtError.__bases__, (ValueError,))

    def test_each_refusal_stands_straight_under_court_error(self):
        for name in REFUSALS:
            with self.subTest(name):
                refusal = getattr(errors, name)
                self.assertEqual(refusal.__name__, name)
                self.assertEqual(refusal.__bases__, (CourtError,))

    def test_no_refusal_is_another(self):
        for name in REFUSALS:
            for other in REFUSALS:
                if name != other:
                    self.assertFalse(issubclass(getattr(errors, name), getattr(errors, other)))

    def test_no_place_keeps_the_name(self):
        for name in ("a", "faraway", "", "X", "two words"):
            self.assertEqual(NoPlace(name).name, name)
        one, other = NoPlace("a"), NoPlace("b")
        self.assertEqual((one.name, other.name), ("a", "b"))

    def test_no_place_keeps_the_name_when_taken_by_court_error(self):
        with self.assertRaises(CourtError) as taken:
            raise NoPlace("far")
        self.assertEqual(taken.exception.name, "far")


if __name__ == "__main__":
    unittest.main()
