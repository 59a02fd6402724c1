"""What a name is, what a variable is, what a whole number is, and numbers read from texts."""

import unittest

from netcourt.errors import NoText
from netcourt.words import is_name, is_variable, is_whole, read_number

LETTERS = "abcdefghijklmnopqrstuvwxyz"


class TestNames(unittest.TestCase):
    def test_small_letters(self):
        for word in list(LETTERS) + ["ab", "abcdefghijkl", "nopqrstuvwxy", "z" * 12, "place", "tie"]:
            self.assertIs(is_name(word), True, word)

    def test_too_short_and_too_long(self):
        for word in ("", "z" * 13, "z" * 500):
            self.assertIs(is_name(word), False, word)

    def test_every_other_sign(self):
        for code in list(range(0, 400)) + [0x430, 0x661, 0xFF41]:
            if chr(code) not in LETTERS:
                for word in (chr(code), "a" + chr(code), chr(code) + "a", "a" + chr(code) + "a"):
                    self.assertIs(is_name(word), False, repr(word))

    def test_what_is_no_text(self):
        for thing in (None, 0, 1, True, [], ["a"], ("a",), {"a": True}):
            self.assertIs(is_name(thing), False, thing)


class TestVariables(unittest.TestCase):
    def test_one_to_three_great_letters(self):
        for word in list(LETTERS.upper()) + ["AB", "XYZ", "ZZZ"]:
            self.assertIs(is_variable(word), True, word)
        for word in ("", "ABCD", "a", "x", "Ab", "aB", "XyZ", "A1", "1", "A ", " A", "A\n", "\u00c4", "\u0391",
                     "\uff21"):
            self.assertIs(is_variable(word), False, repr(word))


class TestWholeNumbers(unittest.TestCase):
    def test_whole(self):
        for number in (0, 1, -1, 10 ** 60, -(10 ** 120)):
            self.assertIs(is_whole(number), True)

    def test_truths_and_others_are_not(self):
        for thing in (True, False, None, "1", "", [], [1], (1,)):
            self.assertIs(is_whole(thing), False, thing)


class TestReadNumber(unittest.TestCase):
    def test_numbers(self):
        for number in (0, 1, 9, 10, 101, -1, -9, -10, -100, 10 ** 59, -(10 ** 60) + 1):
            answer = read_number(str(number), 60)
            self.assertEqual(answer, number)
            self.assertIs(is_whole(answer), True)

    def test_what_is_no_number(self):
        for text in ("", "-", "+1", "-0", "00", "01", "-01", "--1", "1-", "- 1", " 1", "1 ", "1_0", "1.0", "0x1", "a",
                     "1a", "\u0661", "\u00b2", "1\n", "True", "None", "1e2"):
            with self.subTest(text), self.assertRaises(NoText):
                read_number(text, 60)

    def test_figures_are_counted_without_the_sign(self):
        for most in (1, 60, 120):
            for sign in ("", "-"):
                self.assertEqual(read_number(sign + "7" * most, most), int(sign + "7" * most))
                with self.assertRaises(NoText):
                    read_number(sign + "7" * (most + 1), most)

    def test_very_many_figures(self):
        with self.assertRaises(NoText):
            read_number("7" * 10000, 60)


if __name__ == "__main__":
    unittest.main()
