"""Tests of twochoosers.naming: points 2 to 4 and 13."""

import unittest

from twochoosers.naming import as_set, in_order, valid_name

LETTERS = "abcdefghijklmnopqrstuvwxyz"
DIGITS = "0123456789"
# What strings of callers consist of, and the percent sign besides.
SIGNS = [chr(code) for code in range(32, 127)] + ["\n"]


class ValidNameTest(unittest.TestCase):

    def test_example_of_the_interface(self):
        words = ["win", "a1", "1a", "Win", "victory"]
        self.assertEqual([valid_name(word) for word in words], [True, True, False, False, False])

    def test_every_single_character(self):
        for sign in SIGNS:
            self.assertIs(valid_name(sign), sign in LETTERS, repr(sign))

    def test_every_first_character(self):
        for sign in SIGNS:
            self.assertIs(valid_name(sign + "b"), sign in LETTERS, repr(sign))

    def test_every_later_character(self):
        for sign in SIGNS:
            good = sign in LETTERS or sign in DIGITS
            for place in range(1, 6):
                word = "a" * place + sign + "z" * (5 - place)
                self.assertIs(valid_name(word), good, repr(word))
                self.assertIs(valid_name("a" * place + sign), good, repr(sign))

    def test_every_length(self):
        for length in range(0, 20):
            self.assertIs(valid_name("a" * length), 1 <= length <= 6, length)
            self.assertIs(valid_name(("a" + "9" * 20)[:length]), 1 <= length <= 6, length)

    def test_nothing_may_stand_around_a_name(self):
        for word in ("a\n", "\na", " a", "a ", "a\nb", "\n", " ", "a b", "a_b", "_a", "a-1", "-1"):
            self.assertIs(valid_name(word), False, repr(word))

    def test_by_the_name_of_the_argument(self):
        self.assertIs(valid_name(text="win"), True)
        self.assertIs(valid_name(text=""), False)


class AsSetTest(unittest.TestCase):

    def test_each_name_once_in_ascending_order(self):
        self.assertEqual(as_set([]), ())
        self.assertEqual(as_set(["b", "a", "b", "a10", "a"]), ("a", "a10", "b"))
        self.assertEqual(as_set(("c", "c", "c")), ("c",))
        self.assertIs(type(as_set(["a"])), tuple)


class InOrderTest(unittest.TestCase):

    def test_the_shorter_ones_first(self):
        ordered = [(), ("a",), ("a10",), ("a2",), ("b",), ("a", "b"), ("a", "c"), ("a10", "b"), ("a", "b", "c")]
        for start in range(len(ordered)):
            given = ordered[start:] + ordered[:start]
            self.assertEqual(in_order(given), ordered)
            self.assertEqual(in_order(tuple(given[::-1])), ordered)
        self.assertEqual(in_order([]), [])


if __name__ == "__main__":
    unittest.main()
