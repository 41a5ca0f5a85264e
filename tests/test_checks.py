"""Tests of twochoosers.checks: points 2 to 4."""

import itertools
import unittest

from twochoosers.checks import check_count, check_names, is_integer, is_set_of
from twochoosers.errors import BadCount, BadName, DuplicateName


class IsIntegerTest(unittest.TestCase):

    def test_integers_of_any_size(self):
        for value in (0, 1, -1, 7, 10 ** 6000, -10 ** 6000):
            self.assertIs(is_integer(value), True)

    def test_other_values(self):
        for value in (True, False, None, "", "1", [], [1], (), (1,), {}, {1: 1}):
            self.assertIs(is_integer(value), False, repr(value))


class IsSetOfTest(unittest.TestCase):

    def test_the_sets_are_the_ascending_tuples(self):
        for outcomes in (("a", "b", "c"), ["c", "a", "b"]):
            sets = [(), ("a",), ("b",), ("c",), ("a", "b"), ("a", "c"), ("b", "c"), ("a", "b", "c")]
            for length in range(5):
                for value in itertools.product("abcd", repeat=length):
                    self.assertIs(is_set_of(outcomes, value), value in sets, value)

    def test_no_outcomes(self):
        self.assertIs(is_set_of((), ()), True)
        self.assertIs(is_set_of((), ("a",)), False)

    def test_any_other_value(self):
        values = [
            None, True, False, 0, 1, "", "a", "ab", [], ["a"], ["a", "b"], {}, {"a": 1},
            (None,), (True,), (0,), ("",), ("a", 1), (1, "a"), (["a"],), ("a", ["b"]), (("a",),),
            ("a", {}), ({"a": 1},), ("a", None), ((((("a",),),),),), ("a", True),
        ]
        for value in values:
            self.assertIs(is_set_of(("a", "b"), value), False, repr(value))


class CheckTest(unittest.TestCase):

    def test_counts(self):
        for count in range(-1, 20):
            if 1 <= count <= 6:
                self.assertIsNone(check_count(count))
            else:
                with self.assertRaises(BadCount) as context:
                    check_count(count)
                self.assertEqual(context.exception.count, count)

    def test_names(self):
        self.assertIsNone(check_names(["b", "a"]))
        self.assertIsNone(check_names(()))
        with self.assertRaises(BadName) as context:
            check_names(["b", "B", "b"])
        self.assertEqual(context.exception.name, "B")
        with self.assertRaises(DuplicateName) as context:
            check_names(("b", "c", "b", "C", "c"))
        self.assertEqual(context.exception.name, "b")


if __name__ == "__main__":
    unittest.main()
