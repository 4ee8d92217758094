"""What the modules share: which values are integers, tuples and deeds, and which integers words tell."""

import unittest

from roomahead.kinds import is_deed, is_integer, is_name, is_tuple_of, number_told, within
from tests.helper import WRONG_VALUES, result


class Kinds(unittest.TestCase):

    def test_is_integer(self):
        for value in (-1, 0, 1, 10 ** 399, -(10 ** 399)):
            self.assertIs(result(is_integer, value), True)
        for value in WRONG_VALUES:
            self.assertIs(result(is_integer, value), type(value) is int)

    def test_within(self):
        for value in range(-3, 9):
            self.assertIs(result(within, value, 1, 4), value in (1, 2, 3, 4))
            self.assertIs(result(within, value, 2, 1), False)
        for value in WRONG_VALUES:
            self.assertIs(result(within, value, 0, 1), repr(value) in ("0", "1"))

    def test_is_name(self):
        for value in ("a", "z", "in", "abcdefghijkl", "z" * 12):
            self.assertIs(result(is_name, value), True)
        for value in ("", "A", "a1", "a b", "a\n", "`", "{", "\u00e4", "a" * 13, "a" * 20000, ["a"], ("a",), b"a"):
            self.assertIs(result(is_name, value), False)
        for value in WRONG_VALUES:
            self.assertIs(result(is_name, value), type(value) is str and value.isalpha())

    def test_is_tuple_of(self):
        for many in range(4):
            self.assertIs(result(is_tuple_of, (None,) * 2, many), many == 2)
            self.assertIs(result(is_tuple_of, [None] * 2, many), False)
        self.assertIs(result(is_tuple_of, "ab", 2), False)

    def test_number_told(self):
        for greatest in (0, 5, 9, 10, 16, 99, 100, 999):
            for number in range(1200):
                told = number if number <= greatest else None
                self.assertEqual(result(number_told, str(number), greatest), told)
        for word in ("", "00", "01", "007", "-1", "+1", "1 ", " 1", "1.0", "a", "\u0661", "\u00b2", "1" * 5000):
            self.assertIsNone(result(number_told, word, 999))

    def test_is_deed(self):
        for lane in range(-1, 18):
            for other in range(-1, 18):
                for lanes, houses in ((16, 6), (3, 2), (0, 1)):
                    good = 0 <= lane < lanes
                    self.assertIs(is_deed(("in", lane, other), lanes, houses), good and 0 <= other < houses)
                    self.assertIs(is_deed(("on", lane, other), lanes, houses), good and 0 <= other < lanes)
                    self.assertIs(is_deed(("out", lane), lanes, houses), good)
        for value in WRONG_VALUES:
            self.assertIs(result(is_deed, value, 16, 6), False)
        for value in (("in", 0), ("in", 0, 0, 0), ("on", 0), ("on", 0, 1, 2), ("out",), ("out", 0, 0), ("In", 0, 0)):
            self.assertIs(result(is_deed, value, 16, 6), False)


if __name__ == "__main__":
    unittest.main()
