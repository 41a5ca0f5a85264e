"""Tests of twochoosers.powers: points 2 to 4, 9, 10, 11 and 74 to 79."""

import itertools
import random
import unittest

from cases import (
    NOT_NAMES, NOT_SETS, NOT_SIDES, SIDES, ProgramCase, in_order, mixed_tables, sets_of, small_tables,
    tables_of)
from twochoosers import powers
from twochoosers.errors import (
    BadCount, BadName, BadSet, BadSide, DuplicateName, UnlikeOutcomes)
from twochoosers.forcing import forces, is_firm, least_sets
from twochoosers.powers import Power, power_of
from twochoosers.tables import Table

TWO = Power(["a", "b", "c"], [("a", "b"), ("a", "c"), ("b", "c")])
ABC = ("a", "b", "c")


def forced_by(power):
    """The sets that a power forces."""
    return [names for names in sets_of(power.outcomes) if power.forces(names)]


def least_among(sets):
    return in_order(names for names in sets if not any(set(one) < set(names) for one in sets))


def powers_over(outcomes):
    """All powers over these outcomes; of each, the least forced sets were given."""
    found = []
    every = sets_of(outcomes)[1:]

    def add(chosen, start):
        if chosen:
            found.append(Power(outcomes, chosen))
        for at in range(start, len(every)):
            if not any(set(one) <= set(every[at]) for one in chosen):
                add([*chosen, every[at]], at + 1)

    add([], 0)
    return found


def some_powers(outcomes, count):
    """Powers over these outcomes, the same ones in every run."""
    chance = random.Random(11)
    every = sets_of(outcomes)[1:]
    return [Power(outcomes, [chance.choice(every) for _ in range(chance.randint(1, 9))]) for _ in range(count)]


SMALL = [*powers_over(("a",)), *powers_over(("a", "b")), *powers_over(ABC)]
LARGE = [*some_powers(tuple("abcde"), 25), *some_powers(tuple("abcdef"), 25)]


class InterfaceTest(ProgramCase):

    def test_examples(self):
        two = Power(["a", "b", "c"], [("a", "b"), ("a", "c"), ("b", "c")])
        self.assertEqual(
            [two.even, str(two.table()), two.forces(("b",))], [True, "a a b / a a c / b c b", False])
        rows = power_of(Table.read("a b / a c"), "rows")
        self.assertEqual(
            [rows.sets, (~rows).sets, (rows | two).sets, two.covers(rows)],
            [(("a", "b"), ("a", "c")), (("a",), ("b", "c")), (("a", "b"), ("a", "c"), ("b", "c")), True])
        self.refused(BadSet, "value", (), Power, ["a", "b"], [("a",), ()])

    def test_arguments_by_name(self):
        power = Power(sets=[("b",)], outcomes=["b", "a"])
        self.assertIs(power.forces(wanted=("b",)), True)
        self.assertIs(power.covers(other=power), True)
        self.assertTrue(power_of(side="rows", table=Table.read("a b / b b")) == power)

    def test_the_class_itself_has_what_the_interface_lists(self):
        listed = [
            "__init__", "outcomes", "sets", "even", "forces", "covers", "table", "__invert__", "__or__",
            "__and__", "__eq__",
        ]
        for name in listed:
            self.assertIn(name, vars(Power))
        self.assertEqual([Power.__module__, power_of.__module__], ["twochoosers.powers"] * 2)
        self.assertEqual(powers.Power, Power)

    def test_kinds_of_values(self):
        for power in (TWO, ~TWO, TWO | TWO, TWO & TWO, power_of(Table.read("a b"), "rows")):
            self.assertIs(type(power), Power)
            self.assertEqual([type(power.outcomes), type(power.sets)], [tuple, tuple])
            self.assertTrue(all(type(names) is tuple for names in power.sets))
            self.assertIs(type(power.table()), Table)
            self.assertIn(power.even, (True, False))

    def test_there_are_so_many_powers(self):
        # The numbers of Dedekind, without the two powers that force nothing and everything.
        self.assertEqual([len(powers_over(tuple("abcd"[:count]))) for count in (1, 2, 3, 4)], [1, 4, 18, 166])


class ConstructorTest(ProgramCase):

    def test_number_of_names(self):
        for count in range(10):
            names = list("abcdefghij"[:count])
            if 1 <= count <= 6:
                self.assertEqual(Power(names, [("a",)]).outcomes, tuple(names))
            else:
                self.refused(BadCount, "count", count, Power, names, [("a",)])
                self.refused(BadCount, "count", count, Power, ["A"] * count, [])

    def test_names(self):
        for name in NOT_NAMES:
            self.refused(BadName, "name", name, Power, ["a", name, "A"], [])
        self.refused(DuplicateName, "name", "a", Power, ["b", "a", "a", "b"], [None])
        self.refused(BadName, "name", "B", Power, ["a", "B", "a"], [])
        self.refused(DuplicateName, "name", "a", Power, ["a", "a", "B"], [])

    def test_no_set(self):
        self.refused(BadCount, "count", 0, Power, ["a", "b"], [])
        self.refused(BadCount, "count", 0, Power, ("a", "b"), ())

    def test_any_value_that_is_no_set(self):
        for value in [*NOT_SETS, ()]:
            for sets in ([value], [("a",), value], [value, None], (("a", "b", "c"), value, ())):
                kept = self.refused(BadSet, "value", value, Power, ["c", "a", "b"], sets)
                self.assertIs(kept, value)

    def test_the_order_of_the_names_has_no_meaning(self):
        for names in itertools.permutations("abc"):
            power = Power(list(names), [("b", "c"), ("a",)])
            self.assertEqual([power.outcomes, power.sets], [ABC, (("a",), ("b", "c"))])

    def test_the_least_sets(self):
        chance = random.Random(1)
        every = sets_of(tuple("abcdef"))[1:]
        for _ in range(200):
            sets = [chance.choice(every) for _ in range(chance.randint(1, 12))]
            self.assertEqual(Power(list("abcdef"), sets).sets, tuple(least_among(set(sets))))
        for sets in ([("a",), ("a",)], [("a", "b"), ("a",)], (("a",), ("a", "b", "c"))):
            self.assertEqual(Power(ABC, sets).sets, (("a",),))

    def test_later_changes_have_no_effect(self):
        names, sets = ["b", "a"], [("b",), ("a",)]
        power = Power(names, sets)
        names.append("c")
        sets.clear()
        self.assertEqual([power.outcomes, power.sets], [("a", "b"), (("a",), ("b",))])

    def test_a_power_never_changes(self):
        power = Power(ABC, [("a", "b")])
        for name in ("outcomes", "sets", "even"):
            with self.assertRaises(AttributeError):
                setattr(power, name, ())
        power &= TWO
        self.assertEqual([power.sets, TWO.sets], [(ABC[:2],), (("a", "b"), ("a", "c"), ("b", "c"))])
        ~power, power | TWO, power & TWO, power.table(), power.even, power.covers(TWO)
        self.refused(BadSet, "value", None, power.forces, None)
        self.assertEqual([power.outcomes, power.sets], [ABC, (("a", "b"),)])

    def test_an_error_changes_nothing(self):
        names, sets = ["b", "a"], [("b",), ["a"]]
        self.refused(BadSet, "value", ["a"], Power, names, sets)
        self.assertEqual([names, sets], [["b", "a"], [("b",), ["a"]]])


class ForcesTest(ProgramCase):

    def test_a_set_in_which_a_given_one_lies(self):
        chance = random.Random(2)
        every = sets_of(tuple("abcde"))
        for _ in range(60):
            given = [chance.choice(every[1:]) for _ in range(chance.randint(1, 6))]
            power = Power(tuple("abcde"), given)
            for wanted in every:
                expected = any(set(names) <= set(wanted) for names in given)
                self.assertIs(power.forces(wanted), expected)

    def test_refuses_what_is_no_set(self):
        for value in NOT_SETS:
            kept = self.refused(BadSet, "value", value, TWO.forces, value)
            self.assertIs(kept, value)
        self.assertIs(TWO.forces(()), False)

    def test_covers(self):
        for one, other in itertools.product(SMALL, repeat=2):
            if one.outcomes == other.outcomes:
                self.assertIs(one.covers(other), set(forced_by(other)) <= set(forced_by(one)))

    def test_equal(self):
        for one, other in itertools.product(SMALL, repeat=2):
            same = one.outcomes == other.outcomes and forced_by(one) == forced_by(other)
            self.assertIs(one == other, same)
            self.assertIs(one != other, not same)
        self.assertTrue(Power(["b", "a"], [("a",), ("a", "b"), ("a",)]) == Power(("a", "b"), (("a",),)))
        self.assertFalse(Power(["a"], [("a",)]) == Power(["a", "b"], [("a",)]))

    def test_not_equal_to_a_value_of_another_kind(self):
        power = Power(["a"], [("a",)])
        for value in (None, True, 0, "a", ("a",), [("a",)], {}, power.sets, Table([["a"]]), object()):
            self.assertIs(power == value, False)
            self.assertIs(value == power, False)
            self.assertIs(power != value, True)


class SignsTest(ProgramCase):

    def test_the_sets_that_meet_all_forced_sets(self):
        for power in [*SMALL, *powers_over(tuple("abcd"))[::5], *LARGE]:
            forced = [set(names) for names in forced_by(power)]
            expected = [
                names for names in sets_of(power.outcomes) if all(one & set(names) for one in forced)]
            other = ~power
            self.assertEqual(other.outcomes, power.outcomes)
            self.assertEqual(forced_by(other), expected)
            self.assertEqual(other.sets, tuple(least_among(expected)))
            self.assertTrue(~other == power)
            self.assertIs(power.even, power.sets == other.sets)

    def test_either_and_both(self):
        pairs = [
            *itertools.product(powers_over(ABC), repeat=2), *itertools.product(powers_over(("a", "b")), repeat=2),
            *zip(LARGE[:24], LARGE[1:25]), *zip(LARGE[25:], LARGE[26:]),
        ]
        for one, other in pairs:
            first, second = set(forced_by(one)), set(forced_by(other))
            either, both = one | other, one & other
            self.assertEqual([either.outcomes, both.outcomes], [one.outcomes] * 2)
            self.assertEqual(set(forced_by(either)), first | second)
            self.assertEqual(set(forced_by(both)), first & second)
            self.assertEqual(both.sets, tuple(least_among(first & second)))
            self.assertTrue(~(one | other) == ~one & ~other)
            self.assertTrue(~(one & other) == ~one | ~other)
            self.assertTrue(either.covers(one) and one.covers(both))

    def test_even(self):
        for outcomes, sets, even in (
                ("a", ["a"], True), ("ab", ["a"], True), ("ab", ["ab"], False), ("ab", ["a", "b"], False),
                ("abc", ["ab", "ac", "bc"], True), ("abcd", ["ab", "ac", "bc"], True), ("abc", ["abc"], False),
                ("abcd", ["ab", "ac", "ad", "bcd"], True), ("abcd", ["ab", "cd"], False)):
            power = Power(list(outcomes), [tuple(names) for names in sets])
            self.assertIs(power.even, even)

    def test_refuses_other_outcomes(self):
        for names in (("a",), ("a", "b"), ("a", "b", "d"), ("a", "b", "c", "d"), ("d", "e", "f")):
            other = Power(names, [names])
            for ask in (lambda one, two: one | two, lambda one, two: one & two, lambda one, two: one.covers(two)):
                self.refused(UnlikeOutcomes, "names", names, ask, TWO, other)
                self.refused(UnlikeOutcomes, "names", ABC, ask, other, TWO)


class TablesTest(ProgramCase):

    def test_power_of(self):
        for table in [*small_tables(), *mixed_tables(100)]:
            made = {side: power_of(table, side) for side in SIDES}
            for side, power in made.items():
                self.assertEqual(power.outcomes, table.outcomes)
                self.assertEqual(list(power.sets), least_sets(table, side))
            self.assertIs(is_firm(table), ~made["rows"] == made["columns"])
            self.assertTrue((~made["rows"]).covers(made["columns"]))
        for table in [*small_tables()[::50], *mixed_tables(10)]:
            for side in SIDES:
                for wanted in sets_of(table.outcomes):
                    self.assertIs(power_of(table, side).forces(wanted), forces(table, side, wanted))

    def test_refuses_sides(self):
        for word in NOT_SIDES:
            self.refused(BadSide, "word", word, power_of, Table.read("a b"), word)

    def test_table(self):
        done = 0
        for power in [*SMALL, *powers_over(tuple("abcd")), *LARGE]:
            rows, columns = power.sets, (~power).sets
            counts = [count for count in (len(rows), len(columns)) if count > 8]
            if counts:
                self.refused(BadCount, "count", counts[0], power.table)
                continue
            table = power.table()
            expected = [[min(set(row) & set(column)) for column in columns] for row in rows]
            self.assertTrue(table == Table(expected))
            self.assertEqual(table.outcomes, tuple(sorted({one for row in rows for one in row})))
            self.assertIs(is_firm(table), True)
            for side, sets in (("rows", rows), ("columns", columns)):
                self.assertEqual(least_sets(table, side), list(sets))
            done += 1
        self.assertTrue(done > 150)

    def test_outcomes_in_no_least_set_do_not_stand_in_the_table(self):
        power = Power(["a", "b", "c", "d"], [("b",), ("a", "b"), ("c", "d"), ("b", "d")])
        self.assertEqual([power.sets, (~power).sets], [(("b",), ("c", "d")), (("b", "c"), ("b", "d"))])
        self.assertEqual(str(power.table()), "b b / c d")
        self.assertEqual(str(Power(["a", "b"], [("b",)]).table()), "b")

    def test_too_many_rows_then_columns(self):
        letters = tuple("abcdef")
        threes = Power(letters, [names for names in sets_of(letters) if len(names) == 3])
        self.assertEqual([len(threes.sets), len((~threes).sets)], [20, 15])
        self.refused(BadCount, "count", 20, threes.table)
        self.refused(BadCount, "count", 15, (~threes).table)
        two = Power(letters, [("a", "b", "c"), ("d", "e", "f")])
        self.refused(BadCount, "count", 9, two.table)
        self.refused(BadCount, "count", 9, (~two).table)
        pairs = Power(letters, [("a", "b"), ("c", "d"), ("e", "f")])
        self.assertEqual([pairs.table().height, pairs.table().width], [3, 8])
        self.assertEqual([(~pairs).table().height, (~pairs).table().width], [8, 3])

    def test_the_table_of_an_even_power(self):
        for power in [*SMALL, *powers_over(tuple("abcd"))]:
            if max(len(power.sets), len((~power).sets)) <= 8:
                table = power.table()
                same = least_sets(table, "rows") == least_sets(table, "columns")
                self.assertIs(power.even, same)

    def test_there_and_back(self):
        for table in [*tables_of(2, 2, "abc"), *mixed_tables(60)]:
            if is_firm(table):
                power = power_of(table, "rows")
                if max(len(power.sets), len((~power).sets)) <= 8:
                    self.assertEqual(power_of(power.table(), "rows").sets, power.sets)
                    self.assertEqual(power_of(power.table(), "columns").sets, (~power).sets)


if __name__ == "__main__":
    unittest.main()
