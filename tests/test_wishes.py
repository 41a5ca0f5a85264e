"""Tests of twochoosers.wishes: points 2, 6, 10, 11 and 14 to 18."""

import copy
import itertools
import unittest

from cases import ProgramCase
from twochoosers.errors import (
    BadCount, BadName, BadSet, BadWish, DuplicateName, UnknownName, UnlikeOutcomes)
from twochoosers.wishes import Wishes

NOT_INTEGERS = [
    None, True, False, "", "1", "a", [], [1], (), (1,), {}, {"a": 1}, [[[[[1]]]]], [{"a": (None,)}],
]


def small_wishes():
    """All wishes for one, two or three outcomes with amounts from -2 to 2."""
    return [
        Wishes(dict(zip(names, amounts)))
        for names in ("b", "ab", "abc")
        for amounts in itertools.product(range(-2, 3), repeat=len(names))
    ]


class InterfaceTest(ProgramCase):

    def test_examples(self):
        wishes = Wishes({"a": 3, "b": -1, "c": 3})
        self.assertEqual(
            [wishes.outcomes, wishes.prefers("a", "b"), wishes.ranks(), wishes.best(["b", "c"])],
            [("a", "b", "c"), True, [("a", "c"), ("b",)], ("c",)])
        ranked = Wishes.ranked([["b"], ["c", "a"]])
        self.assertEqual(
            [ranked == Wishes.only(["a", "b", "c"], ("b",)), wishes.opposite()["a"]], [True, -3])
        self.refused(DuplicateName, "name", "b", Wishes.ranked, [["b"], ["c", "b"]])

    def test_arguments_by_name(self):
        wishes = Wishes(amounts={"a": 1, "b": 2})
        self.assertIs(wishes.prefers(one="b", other="a"), True)
        self.assertIs(wishes.agrees(other=wishes), True)
        self.assertEqual(wishes.best(names=["a"]), ("a",))
        self.assertEqual(Wishes.ranked(ranks=[["b"], ["a"]]).amounts(), {"a": 0, "b": 1})
        self.assertEqual(Wishes.only(outcomes=["b", "a"], wanted=("a",)).amounts(), {"a": 1, "b": 0})

    def test_the_class_itself_has_what_the_interface_lists(self):
        listed = [
            "__init__", "__getitem__", "__eq__", "outcomes", "amounts", "prefers", "agrees", "best",
            "ranks", "opposite", "ranked", "only",
        ]
        for name in listed:
            self.assertIn(name, vars(Wishes))
        self.assertEqual(Wishes.__module__, "twochoosers.wishes")


class ConstructorTest(ProgramCase):

    def test_ordinary(self):
        wishes = Wishes({"b": 0, "a": -5, "c1": 10 ** 6000})
        self.assertEqual(wishes.amounts(), {"a": -5, "b": 0, "c1": 10 ** 6000})

    def test_number_of_outcomes(self):
        for count in range(0, 10):
            amounts = {"a" + str(number): number for number in range(count)}
            if 1 <= count <= 6:
                self.assertEqual(Wishes(amounts).amounts(), amounts)
            else:
                self.refused(BadCount, "count", count, Wishes, amounts)

    def test_the_number_counts_before_names_and_amounts(self):
        amounts = {"A" + str(number): None for number in range(7)}
        self.refused(BadCount, "count", 7, Wishes, amounts)

    def test_names(self):
        for name in ("", "A", "1a", "a b", "a\n", "abcdefg", "a/b", "a_"):
            self.refused(BadName, "name", name, Wishes, {name: 1})
            self.refused(BadName, "name", name, Wishes, {"a": 1, name: 1})
        self.assertEqual(Wishes({"abcde9": 1}).outcomes, ("abcde9",))

    def test_the_first_wrong_name_in_ascending_order(self):
        self.refused(BadName, "name", "1x", Wishes, {"b": 0, "zZ": 0, "Q": 0, "a": 0, "1x": 0})
        self.refused(BadName, "name", "1x", Wishes, {"1x": 0, "Q": 0, "a": 0})

    def test_all_names_count_before_amounts(self):
        self.refused(BadName, "name", "zZ", Wishes, {"a": None, "zZ": 0})
        self.refused(BadName, "name", "Q", Wishes, {"Q": None, "a": "x"})

    def test_amounts(self):
        for value in NOT_INTEGERS:
            kept = self.refused(BadWish, "value", value, Wishes, {"a": 0, "b": value})
            self.assertIs(kept, value)
        self.assertIs(type(Wishes({"a": 0, "b": 1})["b"]), int)

    def test_the_first_wrong_amount_in_the_order_of_outcomes(self):
        self.refused(BadWish, "value", True, Wishes, {"c": "x", "b": True, "a": 1})
        self.refused(BadWish, "value", False, Wishes, {"b": False, "c": "x", "a": 1})

    def test_an_error_changes_nothing(self):
        amounts = {"b": [1], "a": 0}
        self.refused(BadWish, "value", [1], Wishes, amounts)
        self.assertEqual(list(amounts.items()), [("b", [1]), ("a", 0)])


class CopiesTest(ProgramCase):

    def test_later_changes_of_the_dict_have_no_effect(self):
        amounts = {"b": 2, "a": 1}
        wishes = Wishes(amounts)
        amounts["a"] = 7
        amounts["c"] = 8
        del amounts["b"]
        self.assertEqual(wishes.amounts(), {"a": 1, "b": 2})
        self.assertEqual(wishes.outcomes, ("a", "b"))

    def test_what_amounts_returns_is_new(self):
        wishes = Wishes({"b": 2, "a": 1})
        told = wishes.amounts()
        self.assertIs(type(told), dict)
        told["a"] = 7
        told["c"] = 8
        del told["b"]
        self.assertEqual(wishes.amounts(), {"a": 1, "b": 2})
        self.assertEqual(wishes["a"], 1)
        self.assertEqual(wishes["b"], 2)
        self.assertIsNot(wishes.amounts(), wishes.amounts())

    def test_what_ranks_returns_is_new(self):
        wishes = Wishes({"b": 2, "a": 1})
        told = wishes.ranks()
        told.append(("c",))
        del told[0]
        self.assertEqual(wishes.ranks(), [("b",), ("a",)])

    def test_no_call_changes_its_arguments(self):
        amounts = {"b": 2, "a": 1}
        names = ["b", "a", "b"]
        ranks = [["b"], ["c", "a"]]
        outcomes = ["c", "a"]
        wishes = Wishes(amounts)
        wishes.best(names)
        Wishes.ranked(ranks)
        Wishes.only(outcomes, ("a",))
        self.assertEqual(list(amounts.items()), [("b", 2), ("a", 1)])
        self.assertEqual(names, ["b", "a", "b"])
        self.assertEqual(ranks, [["b"], ["c", "a"]])
        self.assertEqual(outcomes, ["c", "a"])

    def test_later_changes_of_ranks_and_outcomes_have_no_effect(self):
        ranks = [["b"], ["c", "a"]]
        ranked = Wishes.ranked(ranks)
        ranks[1].append("d")
        ranks.append(["e"])
        self.assertEqual(ranked.amounts(), {"a": 0, "b": 1, "c": 0})
        outcomes = ["c", "a"]
        only = Wishes.only(outcomes, ("a",))
        outcomes.append("d")
        self.assertEqual(only.amounts(), {"a": 1, "c": 0})

    def test_wishes_never_change(self):
        wishes = Wishes({"b": 2, "a": 1})
        other = Wishes({"a": 0, "b": 0})
        wishes.opposite()
        wishes.agrees(other)
        wishes.best(["a"])
        wishes.ranks()
        self.refused(UnknownName, "name", "c", wishes.prefers, "a", "c")
        self.assertEqual(wishes.amounts(), {"a": 1, "b": 2})
        self.assertEqual(other.amounts(), {"a": 0, "b": 0})
        with self.assertRaises(AttributeError):
            wishes.outcomes = ("c",)
        with self.assertRaises(TypeError):
            wishes["a"] = 3
        self.assertEqual(wishes.outcomes, ("a", "b"))


class LookingTest(ProgramCase):

    def test_outcomes_ascend_as_strings_do(self):
        wishes = Wishes({"b": 1, "a10": 1, "a": 1, "a2": 1, "ab": 1, "z": 0})
        self.assertEqual(wishes.outcomes, ("a", "a10", "a2", "ab", "b", "z"))
        self.assertIs(type(wishes.outcomes), tuple)

    def test_the_order_of_the_keys_has_no_meaning(self):
        amounts = [("a", 1), ("b", 0), ("c", 1), ("d", -1)]
        first = Wishes(dict(amounts))
        for items in itertools.permutations(amounts):
            wishes = Wishes(dict(items))
            self.assertEqual(wishes.outcomes, ("a", "b", "c", "d"))
            self.assertEqual(list(wishes.amounts().items()), list(first.amounts().items()))
            self.assertEqual(wishes.ranks(), [("a", "c"), ("b",), ("d",)])
            self.assertEqual(wishes.best(["d", "c", "a"]), ("a", "c"))
            self.assertTrue(wishes == first)

    def test_items(self):
        wishes = Wishes({"a": 3, "b": -1})
        self.assertEqual([wishes["a"], wishes["b"]], [3, -1])
        for name in ("c", "", "A", "a\n", "ab", "amount"):
            with self.assertRaises(UnknownName) as context:
                wishes[name]
            self.assertEqual(context.exception.name, name)

    def test_wishes_are_not_iterated_over(self):
        with self.assertRaises(TypeError):
            iter(Wishes({"a": 1}))

    def test_prefers(self):
        wishes = Wishes({"a": 3, "b": -1, "c": 3, "d": 4})
        self.assertIs(wishes.prefers("a", "b"), True)
        self.assertIs(wishes.prefers("b", "a"), False)
        self.assertIs(wishes.prefers("a", "c"), False)
        self.assertIs(wishes.prefers("c", "a"), False)
        self.assertIs(wishes.prefers("a", "a"), False)
        self.assertIs(wishes.prefers("d", "a"), True)

    def test_prefers_compares_integers_of_any_size(self):
        wishes = Wishes({"a": 10 ** 30, "b": 10 ** 30 + 1})
        self.assertIs(wishes.prefers("b", "a"), True)
        self.assertIs(wishes.prefers("a", "b"), False)

    def test_prefers_refuses_one_and_then_other(self):
        wishes = Wishes({"a": 3, "b": -1})
        self.refused(UnknownName, "name", "x", wishes.prefers, "x", "a")
        self.refused(UnknownName, "name", "y", wishes.prefers, "a", "y")
        self.refused(UnknownName, "name", "x", wishes.prefers, "x", "y")
        self.refused(UnknownName, "name", "x", wishes.prefers, one="x", other="x")


class BestAndRanksTest(ProgramCase):

    def test_best(self):
        wishes = Wishes({"a": 3, "b": -1, "c": 3, "d": 0})
        self.assertEqual(wishes.best(["d", "b"]), ("d",))
        self.assertEqual(wishes.best(["b"]), ("b",))
        self.assertEqual(wishes.best(["c", "b", "a"]), ("a", "c"))
        self.assertEqual(wishes.best(["c", "d"]), ("c",))
        self.assertIs(type(wishes.best(["c"])), tuple)

    def test_best_of_a_tuple_and_of_names_that_repeat(self):
        wishes = Wishes({"a": 3, "b": -1, "c": 3})
        self.assertEqual(wishes.best(("c", "b", "a")), ("a", "c"))
        self.assertEqual(wishes.best(["c", "a", "c", "a"]), ("a", "c"))
        self.assertEqual(wishes.best(["b", "b"]), ("b",))
        self.assertEqual(wishes.best(["a", "b", "c"] * 5), ("a", "c"))

    def test_best_refuses(self):
        wishes = Wishes({"a": 3, "b": -1})
        self.refused(BadCount, "count", 0, wishes.best, [])
        self.refused(BadCount, "count", 0, wishes.best, ())
        self.refused(UnknownName, "name", "x", wishes.best, ["x"])
        self.refused(UnknownName, "name", "x", wishes.best, ["a", "x", "c", "b"])
        self.refused(UnknownName, "name", "z", wishes.best, ("z", "c", "A", "b"))
        self.refused(UnknownName, "name", "", wishes.best, ["b", ""])

    def test_ranks(self):
        self.assertEqual(Wishes({"a": -9}).ranks(), [("a",)])
        wishes = Wishes({"f": 0, "e": 0, "d": -2, "c": 10, "b": -1, "a": 0})
        self.assertEqual(wishes.ranks(), [("c",), ("a", "e", "f"), ("b",), ("d",)])
        self.assertIs(type(wishes.ranks()), list)
        self.assertTrue(all(type(rank) is tuple for rank in wishes.ranks()))

    def test_they_are_what_prefers_tells(self):
        for wishes in small_wishes():
            names = wishes.outcomes
            for one, other in itertools.product(names, repeat=2):
                self.assertIs(wishes.prefers(one, other), wishes[one] > wishes[other])
            for length in range(1, len(names) + 1):
                for some in itertools.permutations(names, length):
                    top = [x for x in names if x in some]
                    top = [x for x in top if not any(wishes.prefers(y, x) for y in some)]
                    self.assertEqual(wishes.best(list(some)), tuple(top))
            rest = list(names)
            ranks = []
            while rest:
                ranks.append(wishes.best(rest))
                rest = [name for name in rest if name not in ranks[-1]]
            self.assertEqual(wishes.ranks(), ranks)


class OppositeAgreesEqualTest(ProgramCase):

    def test_opposite(self):
        wishes = Wishes({"a": 3, "b": -1, "c": 0})
        self.assertEqual(wishes.opposite().amounts(), {"a": -3, "b": 1, "c": 0})
        self.assertIs(type(wishes.opposite()), Wishes)
        self.assertIs(type(wishes.opposite()["c"]), int)
        self.assertEqual(wishes.opposite().ranks(), wishes.ranks()[::-1])
        for one in small_wishes():
            self.assertEqual(one.opposite().amounts(), {name: -one[name] for name in one.outcomes})
            self.assertTrue(one.opposite().opposite() == one)

    def test_agrees(self):
        wishes = Wishes({"a": 3, "b": -1, "c": 3})
        self.assertIs(wishes.agrees(Wishes({"a": 1, "b": 0, "c": 1})), True)
        self.assertIs(wishes.agrees(wishes), True)
        self.assertIs(wishes.agrees(Wishes({"a": 2, "b": 0, "c": 1})), False)
        self.assertIs(wishes.agrees(Wishes({"a": 0, "b": 1, "c": 0})), False)
        self.assertIs(wishes.agrees(Wishes({"a": 0, "b": 0, "c": 0})), False)
        self.assertIs(wishes.agrees(wishes.opposite()), False)

    def test_agrees_exactly_with_those_of_the_same_order(self):
        for one, other in itertools.product(small_wishes(), repeat=2):
            if one.outcomes == other.outcomes:
                same = all(
                    one.prefers(x, y) == other.prefers(x, y)
                    for x, y in itertools.product(one.outcomes, repeat=2))
                self.assertIs(one.agrees(other), same)

    def test_agrees_refuses_other_outcomes(self):
        wishes = Wishes({"a": 1, "b": 0})
        for others in (("a",), ("a", "c"), ("a", "b", "c"), ("c", "d")):
            other = Wishes({name: 1 for name in others})
            self.refused(UnlikeOutcomes, "names", others, wishes.agrees, other)
            self.refused(UnlikeOutcomes, "names", ("a", "b"), other.agrees, wishes)

    def test_equal(self):
        wishes = Wishes({"a": 1, "b": 0})
        self.assertIs(wishes == Wishes({"b": 0, "a": 1}), True)
        self.assertIs(wishes != Wishes({"b": 0, "a": 1}), False)
        for amounts in ({"a": 2, "b": 0}, {"a": 2, "b": 1}, {"a": 1}, {"a": 1, "c": 0},
                        {"a": 1, "b": 0, "c": 0}, {"a": 0, "b": 1}):
            self.assertIs(wishes == Wishes(amounts), False)
            self.assertIs(Wishes(amounts) == wishes, False)
            self.assertIs(wishes != Wishes(amounts), True)

    def test_equal_exactly_with_the_same_amounts(self):
        for one, other in itertools.product(small_wishes(), repeat=2):
            self.assertIs(one == other, one.amounts() == other.amounts())

    def test_not_equal_to_a_value_of_another_kind(self):
        wishes = Wishes({"a": 1})
        values = [None, True, 1, "a", {"a": 1}, [("a", 1)], ("a",), ["a"], {}, object()]
        for value in values:
            self.assertIs(wishes == value, False)
            self.assertIs(value == wishes, False)
            self.assertIs(wishes != value, True)


class RankedTest(ProgramCase):

    def test_ordinary(self):
        wishes = Wishes.ranked([["b"], ["c", "a"], ["d"]])
        self.assertIs(type(wishes), Wishes)
        self.assertEqual(wishes.amounts(), {"a": 1, "b": 2, "c": 1, "d": 0})
        self.assertEqual(Wishes.ranked([["a"]]).amounts(), {"a": 0})
        six = Wishes.ranked([["f"], ["e"], ["d"], ["c"], ["b"], ["a"]])
        self.assertEqual(six.amounts(), {"a": 0, "b": 1, "c": 2, "d": 3, "e": 4, "f": 5})
        self.assertEqual(
            Wishes.ranked([["f", "e", "d", "c", "b", "a"]]).amounts(), dict.fromkeys("abcdef", 0))

    def test_tuples_in_place_of_lists(self):
        wishes = Wishes.ranked([["b"], ["c", "a"]])
        for ranks in ((("b",), ("c", "a")), [("b",), ["c", "a"]], (["b"], ("c", "a"))):
            self.assertTrue(Wishes.ranked(ranks) == wishes)

    def test_ranks_of_ranked(self):
        for wishes in small_wishes():
            ranked = Wishes.ranked([list(rank) for rank in wishes.ranks()])
            self.assertEqual(ranked.ranks(), wishes.ranks())
            self.assertIs(ranked.agrees(wishes), True)
            self.assertEqual(min(ranked.amounts().values()), 0)
            self.assertEqual(max(ranked.amounts().values()), len(wishes.ranks()) - 1)

    def test_number_of_names(self):
        self.refused(BadCount, "count", 0, Wishes.ranked, [])
        self.refused(BadCount, "count", 0, Wishes.ranked, ())
        self.refused(BadCount, "count", 0, Wishes.ranked, [[], []])
        self.refused(BadCount, "count", 7, Wishes.ranked, [["a", "b", "c"], ["d", "e", "f", "g"]])
        self.refused(BadCount, "count", 8, Wishes.ranked, [list("abcdefgh")])

    def test_the_number_counts_before_all_else(self):
        self.refused(BadCount, "count", 7, Wishes.ranked, [["a"] * 4, [], ["A"] * 3])
        self.refused(BadCount, "count", 7, Wishes.ranked, [["a"], ["b", "c", "d", "e", "f"], ["a"]])

    def test_an_empty_list(self):
        self.refused(BadCount, "count", 0, Wishes.ranked, [["a"], []])
        self.refused(BadCount, "count", 0, Wishes.ranked, [[], ["a"]])
        self.refused(BadCount, "count", 0, Wishes.ranked, [["a"], (), ["b"]])
        self.refused(BadCount, "count", 0, Wishes.ranked, [["A", "a", "a"], []])

    def test_names(self):
        self.refused(BadName, "name", "B", Wishes.ranked, [["a"], ["B", "C"]])
        self.refused(BadName, "name", "C", Wishes.ranked, [["a", "C"], ["B"]])
        self.refused(BadName, "name", "", Wishes.ranked, [[""]])
        self.refused(DuplicateName, "name", "a", Wishes.ranked, [["a", "a"]])
        self.refused(DuplicateName, "name", "a", Wishes.ranked, [["a"], ["b"], ["a", "b"]])

    def test_the_first_wrong_name_counts_whatever_is_wrong(self):
        self.refused(DuplicateName, "name", "a", Wishes.ranked, [["a"], ["a", "B"]])
        self.refused(BadName, "name", "B", Wishes.ranked, [["a"], ["B", "a"]])
        self.refused(BadName, "name", "B", Wishes.ranked, [["B"], ["B"]])


class OnlyTest(ProgramCase):

    def test_ordinary(self):
        wishes = Wishes.only(["c", "a", "b"], ("a", "c"))
        self.assertIs(type(wishes), Wishes)
        self.assertEqual(wishes.amounts(), {"a": 1, "b": 0, "c": 1})
        self.assertTrue(all(type(amount) is int for amount in wishes.amounts().values()))
        self.assertEqual(wishes.ranks(), [("a", "c"), ("b",)])

    def test_every_set(self):
        for length in range(7):
            for wanted in itertools.combinations("abcdef", length):
                for outcomes in (list("fedcba"), tuple("badcfe")):
                    self.assertEqual(
                        Wishes.only(outcomes, wanted).amounts(),
                        {name: int(name in wanted) for name in "abcdef"})

    def test_one_outcome(self):
        self.assertEqual(Wishes.only(["a"], ()).amounts(), {"a": 0})
        self.assertEqual(Wishes.only(("a",), ("a",)).amounts(), {"a": 1})

    def test_refuses_what_ranked_refuses(self):
        for names in ([], (), list("abcdefg"), ["a"] * 9, ["a", "B", "a"], ["b", "c", "b", "A"],
                      ["a", "a"], [""], ["abcdefg"], ["A"] * 7):
            with self.assertRaises(ValueError) as expected:
                Wishes.ranked([names])
            ((argument, value),) = vars(expected.exception).items()
            for wanted in ((), ("x",), None):
                self.refused(type(expected.exception), argument, value, Wishes.only, names, wanted)

    def test_refuses_names(self):
        self.refused(BadCount, "count", 0, Wishes.only, [], ())
        self.refused(BadCount, "count", 7, Wishes.only, list("abcdefg"), ("a",))
        self.refused(BadName, "name", "B", Wishes.only, ["a", "B", "a"], ("a",))
        self.refused(DuplicateName, "name", "a", Wishes.only, ["a", "a", "B"], ("a",))

    def test_refuses_any_value_that_is_no_set_of_the_outcomes(self):
        values = [
            None, True, False, 0, 1, -1, "", "a", "ab", [], ["a"], ["a", "b"], {}, {"a": 1},
            ("b", "a"), ("a", "a"), ("d",), ("a", "d"), ("",), ("a", ""), ("A",), ("ab",),
            (None,), (0,), (True,), ("a", 1), (1, "a"), ("a", None), ("a", True), ((),), (("a",),),
            (["a"],), ("a", ["b"]), ({},), ("a", {"b": 1}), ("a", "b", "b"), ("a", "c", "b"),
            ((((("a",),),),),), (10 ** 6000,), ("a", "b", "c", "d"), ("a", "b", "c", "c"),
        ]
        for value in values:
            for outcomes in (["c", "a", "b"], ("a", "b", "c")):
                kept = self.refused(BadSet, "value", value, Wishes.only, outcomes, value)
                self.assertIs(kept, value)

    def test_an_error_changes_nothing(self):
        outcomes = ["b", "a"]
        wanted = ["a", ["b"]]
        before = copy.deepcopy(wanted)
        self.refused(BadSet, "value", wanted, Wishes.only, outcomes, wanted)
        self.assertEqual([outcomes, wanted], [["b", "a"], before])


if __name__ == "__main__":
    unittest.main()
