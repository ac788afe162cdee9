"""What an integer is, a name, and a number in a text."""

import unittest

from roadqueues.checks import is_integer, is_name, is_within, number_in
from roadqueues.webs import Web
from support import ODD_VALUES

WEB = Web("road a p q")


class Checks(unittest.TestCase):
    def test_integers(self):
        for value in (0, 1, -1, 10 ** 39, -10 ** 39):
            self.assertIs(is_integer(value), True)
        for value in (True, False, None, "", "1", (), (1,), [], [1], {}, {1: 1}, WEB):
            self.assertIs(is_integer(value), False)

    def test_integers_within(self):
        for value in (3, 4, 5):
            self.assertIs(is_within(value, 3, 5), True)
        for value in (2, 6, -3, -10 ** 39, 10 ** 39, "4", None, (4,), [4], {}, WEB):
            self.assertIs(is_within(value, 3, 5), False)
        for value in (True, False):
            self.assertIs(is_within(value, 0, 1), False)

    def test_names(self):
        for value in ("a", "z", "az", "abcdefgh", "zzzzzzzz"):
            self.assertIs(is_name(value), True)
        for value in (*ODD_VALUES, WEB, "", "abcdefghi", "A", "aA", "Za", "a1", "1", "a b", " a", "a ", "a\n", "-", "a" * 200000):
            self.assertIs(is_name(value), False)
        for sign in [chr(code) for code in range(32, 127)]:
            self.assertIs(is_name("a" + sign), "a" <= sign <= "z")

    def test_numbers_in_texts(self):
        for number in (0, 1, 9, 10, 99, 100, 12345678, 99999999, 100000000, 999999999):
            self.assertEqual(number_in(str(number)), number)
        words = ("", "00", "007", "01", "+1", "-0", "-1", "1000000000", "0000000001", " 1", "1 ", "1_0", "1.", "x", "1x", "9" * 5000)
        for word in words:
            self.assertIsNone(number_in(word))


if __name__ == "__main__":
    unittest.main()
