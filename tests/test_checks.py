"""Tests of twochoosers.checks: points 2 to 4."""

import itertools
import unittest

from twochoosers.checks import (
    check_count, check_names, check_outcomes, check_set, check_side, is_index, is_integer, is_set_of)
from twochoosers.errors import BadCount, BadName, BadSet, BadSide, DuplicateName, UnlikeOutcomes


class IsIntegerTest(unittest.TestCase):

    def test_integers_of_any_size(self):
        for value in (0, 1, -1, 7, 10 ** 6000, -10 ** 6000):
            self.assertIs(is_integer(value), True)

    def test_other_values(self):
        for value in (True, False, None, "", "1", [], [1], (), (1,), {}, {1: 1}):
            self.assertIs(is_integer(value), False, repr(value))


class IsIndexTest(unittest.TestCase):

    def test_integers(self):
        for count in range(0, 5):
            for value in range(-3, 8):
                self.assertIs(is_index(value, count), 0 <= value < count)
        self.assertIs(is_index(10 ** 6000, 8), False)
        self.assertIs(is_index(-10 ** 6000, 8), False)

    def test_other_values(self):
        for value in (None, True, False, "", "0", [0], (0,), {}, {0: 0}):
            self.assertIs(is_index(value, 8), False, repr(value))


class IsSetOfTest(unittest.TestCase):

    def test_the_sets_are_the_ascending_tuples(self):
        for outcomes in (("a", "b", "c"), ["c", "a", "b"]):
            sets = [(), ("a",), ("b",), ("c",), ("a", "b"), ("a", "c"), ("b", "c"), ("a", "b", "c")]
            for length in range(5):
                for value in itertools.product("abcd", repeat=length):
                    self.assertIs(is_set_of(outcomes, value), value in sets, value)

    def test_no_outcomes(self):
        self.assertIs(is_set_of((), ()), True)
        self.assertIs(is_set_of((), ("a",)), False)

    def test_any_other_value(self):
        values = [
            None, True, False, 0, 1, "", "a", "ab", [], ["a"], ["a", "b"], {}, {"a": 1},
            (None,), (True,), (0,), ("",), ("a", 1), (1, "a"), (["a"],), ("a", ["b"]), (("a",),),
            ("a", {}), ({"a": 1},), ("a", None), ((((("a",),),),),), ("a", True),
        ]
        for value in values:
            self.assertIs(is_set_of(("a", "b"), value), False, repr(value))


class CheckTest(unittest.TestCase):

    def test_counts(self):
        for count in range(-1, 20):
            if 1 <= count <= 6:
                self.assertIsNone(check_count(count))
            else:
                with self.assertRaises(BadCount) as context:
                    check_count(count)
                self.assertEqual(context.exception.count, count)

    def test_names(self):
        self.assertIsNone(check_names(["b", "a"]))
        self.assertIsNone(check_names(()))
        with self.assertRaises(BadName) as context:
            check_names(["b", "B", "b"])
        self.assertEqual(context.exception.name, "B")
        with self.assertRaises(DuplicateName) as context:
            check_names(("b", "c", "b", "C", "c"))
        self.assertEqual(context.exception.name, "b")

    def test_sets(self):
        self.assertIsNone(check_set(("a", "b"), ("b",)))
        self.assertIsNone(check_set((), ()))
        for value in (None, True, 0, "a", ["a"], ("b", "a"), ("c",), ("a", "a"), {"a": 1}):
            with self.assertRaises(BadSet) as context:
                check_set(("a", "b"), value)
            self.assertIs(context.exception.value, value)

    def test_sides(self):
        self.assertIsNone(check_side("rows"))
        self.assertIsNone(check_side("columns"))
        for word in ("", "row", "Rows", "columns ", "rows\n", "rowscolumns"):
            with self.assertRaises(BadSide) as context:
                check_side(word)
            self.assertEqual(context.exception.word, word)

    def test_outcomes(self):
        self.assertIsNone(check_outcomes(("a", "b"), ("a", "b")))
        for names in ((), ("a",), ("a", "c"), ("a", "b", "c")):
            with self.assertRaises(UnlikeOutcomes) as context:
                check_outcomes(("a", "b"), names)
            self.assertEqual(context.exception.names, names)


if __name__ == "__main__":
    unittest.main()
