"""Tests of twochoosers.stable and twochoosers.moves: points 2, 6, 7, 9, 10 and 31 to 35."""

import itertools
import unittest

from cases import (
    ANY_VALUES, ProgramCase, all_wishes, cells_in, leading_on, mixed_tables, small_tables, some_wishes,
    tables_of, tiny_tables)
from twochoosers import stable
from twochoosers.errors import BadCell, IsFirm, UnlikeOutcomes
from twochoosers.forcing import is_firm
from twochoosers.moves import better_cells, wishes_fit
from twochoosers.stable import Unrest, check_unrest, first_stable, is_stable, stable_cells, unrest
from twochoosers.tables import Table
from twochoosers.wishes import Wishes

PENNY = Table([["a", "b"], ["b", "a"]])
CALM = Table([["a", "a"], ["b", "c"]])
OTHER_OUTCOMES = [("a",), ("a", "b"), ("a", "b", "d"), ("a", "b", "c", "d"), ("d", "e", "f")]


def wishes_for(outcomes):
    return Wishes({name: 0 for name in outcomes})


def sure_and_kept(table, wishes):
    """The two numbers of point 55: what `rows` is sure of, and what `columns` keeps it down to."""
    sure = max(min(wishes[name] for name in row) for row in table.lines)
    kept = min(max(wishes[name] for name in column) for column in zip(*table.lines))
    return sure, kept


class InterfaceTest(ProgramCase):

    def test_examples(self):
        one = Wishes({"a": 1, "b": 0})
        other = Wishes({"a": 0, "b": 1})
        self.assertIs(first_stable(PENNY, one, other) is None, True)
        told = stable_cells(
            CALM, Wishes({"a": 1, "b": 2, "c": 0}), Wishes({"a": 0, "b": 1, "c": 2}))
        self.assertEqual([check_unrest(PENNY, unrest(PENNY)), told], [True, [(0, 1)]])

    def test_arguments_by_name(self):
        one = Wishes({"a": 1, "b": 0})
        other = Wishes({"a": 1, "b": 0})
        both = {"table": PENNY, "row_wishes": one, "column_wishes": other}
        self.assertIs(is_stable(cell=(1, 1), **both), True)
        self.assertEqual(stable_cells(**both), [(0, 0), (1, 1)])
        self.assertEqual(first_stable(**both), (0, 0))
        told = Unrest(column_wishes=one.opposite(), row_wishes=one)
        self.assertIs(check_unrest(table=PENNY, told=told), True)
        self.assertIs(type(unrest(table=PENNY)), Unrest)

    def test_all_are_defined_in_this_file(self):
        for name in ("is_stable", "check_unrest", "stable_cells", "first_stable", "unrest", "Unrest"):
            self.assertEqual(getattr(stable, name).__module__, "twochoosers.stable")
        for name in ("__init__", "row_wishes", "column_wishes"):
            self.assertIn(name, vars(Unrest))


class StableCellsTest(ProgramCase):

    def check_all(self, table, one, other):
        onward = leading_on(table, one, other)
        expected = [cell for cell in cells_in(table) if not onward[cell]]
        self.assertEqual(stable_cells(table, one, other), expected)
        self.assertEqual(first_stable(table, one, other), expected[0] if expected else None)
        for cell in cells_in(table):
            self.assertIs(is_stable(table, one, other, cell), cell in expected)
            self.assertEqual(better_cells(table, one, other, cell), onward[cell])
        return expected

    def test_all_wishes_for_tiny_tables(self):
        for table in tiny_tables():
            for one, other in itertools.product(all_wishes(table.outcomes, 1), repeat=2):
                self.check_all(table, one, other)

    def test_wishes_for_larger_tables(self):
        for at, table in enumerate(mixed_tables(60)):
            self.check_all(table, some_wishes(table.outcomes, at), some_wishes(table.outcomes, -at - 1))

    def test_sides_and_their_directions(self):
        table = Table.read("a b c")
        one = Wishes({"a": 0, "b": 5, "c": 9})
        other = Wishes({"a": 1, "b": 1, "c": 0})
        self.assertEqual(stable_cells(table, one, other), [(0, 0), (0, 1)])
        self.assertEqual(stable_cells(table.turned(), one, other), [(2, 0)])
        self.assertEqual(stable_cells(table, other, one), [(0, 2)])

    def test_cells_with_the_same_outcome_are_no_improvement(self):
        table = Table.read("a a / a a")
        for amount in (0, 7, -7):
            wishes = Wishes({"a": amount})
            self.assertEqual(stable_cells(table, wishes, wishes), cells_in(table))

    def test_integers_of_any_size(self):
        big = 10 ** 6000
        one = Wishes({"a": big, "b": big + 1})
        self.assertEqual(stable_cells(PENNY, one, one), [(0, 1), (1, 0)])
        self.assertEqual(stable_cells(PENNY, one, one.opposite()), [])

    def test_what_is_returned_is_new(self):
        wishes = Wishes({"a": 1, "b": 0})
        told = stable_cells(PENNY, wishes, wishes)
        self.assertIs(type(told), list)
        self.assertTrue(all(type(cell) is tuple for cell in told))
        told.clear()
        self.assertEqual(stable_cells(PENNY, wishes, wishes), [(0, 0), (1, 1)])

    def test_the_outcomes_of_the_wishes(self):
        right = wishes_for("abc")
        for names in OTHER_OUTCOMES:
            wrong = wishes_for(names)
            for ask in (stable_cells, first_stable):
                self.refused(UnlikeOutcomes, "names", names, ask, CALM, wrong, right)
                self.refused(UnlikeOutcomes, "names", names, ask, CALM, right, wrong)
                self.refused(UnlikeOutcomes, "names", names, ask, CALM, wrong, wishes_for("xyz"))
            for cell in ((0, 0), (2, 2), None, "a"):
                self.refused(UnlikeOutcomes, "names", names, is_stable, CALM, wrong, right, cell)
                self.refused(UnlikeOutcomes, "names", names, is_stable, CALM, right, wrong, cell)
                self.refused(
                    UnlikeOutcomes, "names", names, is_stable, CALM, wrong, wishes_for("xyz"), cell)

    def test_any_value_that_is_no_cell(self):
        wishes = wishes_for("abc")
        for value in [*ANY_VALUES, (0, 2), (2, 0), (True, 1), (0, True), (0, -1), [0, 0], ()]:
            kept = self.refused(BadCell, "value", value, is_stable, CALM, wishes, wishes, value)
            self.assertIs(kept, value)


class FirmTest(ProgramCase):

    def test_firm_exactly_if_all_wishes_have_a_stable_cell(self):
        for table in [*tiny_tables(), *tables_of(3, 3, "ab")[::3], *tables_of(2, 3, "abc")[::7]]:
            some = all_wishes(table.outcomes, 1)
            found = [first_stable(table, one, other) for one, other in itertools.product(some, repeat=2)]
            self.assertIs(is_firm(table), None not in found, str(table))

    def test_a_firm_table_has_a_stable_cell_for_finer_wishes_too(self):
        for table in tiny_tables():
            if is_firm(table):
                some = all_wishes(table.outcomes, len(table.outcomes) - 1)
                for one, other in itertools.product(some, repeat=2):
                    self.assertIsNotNone(first_stable(table, one, other))

    def test_large_firm_tables(self):
        firm = [table for table in mixed_tables(300) if is_firm(table)]
        firm.append(Table.read("a a b / a a c / b c b"))
        self.assertTrue(len(firm) > 50)
        for at, table in enumerate(firm):
            for seed in range(10):
                one = some_wishes(table.outcomes, 100 * at + seed)
                other = some_wishes(table.outcomes, -100 * at - seed - 1)
                self.assertIsNotNone(first_stable(table, one, other))


class UnrestTest(ProgramCase):

    def test_the_properties_are_the_arguments(self):
        one = Wishes({"a": 1, "b": 0})
        other = Wishes({"c": 4})
        told = Unrest(one, other)
        self.assertTrue(told.row_wishes == one)
        self.assertTrue(told.column_wishes == other)
        with self.assertRaises(AttributeError):
            told.row_wishes = other
        for value in (None, 1, "a", (one, other), {}, object()):
            self.assertIs(told == value, False)

    def test_unrest(self):
        restless = 0
        for table in [*small_tables(), *mixed_tables(300)]:
            if is_firm(table):
                self.refused_alone(IsFirm, unrest, table)
                continue
            restless += 1
            told = unrest(table)
            self.assertIs(type(told), Unrest)
            one = told.row_wishes.amounts()
            other = told.column_wishes.amounts()
            self.assertEqual(tuple(sorted(one)), table.outcomes)
            self.assertEqual(other, {name: 1 - one[name] for name in one})
            self.assertTrue(set(one.values()) <= {0, 1})
            onward = leading_on(table, told.row_wishes, told.column_wishes)
            self.assertTrue(all(onward.values()), str(table))
            self.assertIs(check_unrest(table, told), True)
            again = unrest(Table.read(str(table)))
            self.assertTrue(again.row_wishes == told.row_wishes)
            self.assertTrue(again.column_wishes == told.column_wishes)
        self.assertTrue(restless > 100)

    def test_unrest_refuses_firm_tables(self):
        for text in ("a", "a b", "a / b", "a a / b c", "a a b / a a c / b c b"):
            self.refused_alone(IsFirm, unrest, Table.read(text))

    def test_check_unrest_of_all_wishes(self):
        for table in [PENNY, CALM, *tiny_tables()[::5]]:
            for one, other in itertools.product(all_wishes(table.outcomes, 1), repeat=2):
                restless = all(leading_on(table, one, other).values())
                self.assertIs(check_unrest(table, Unrest(one, other)), restless)

    def test_check_unrest_takes_any_integers(self):
        one = Wishes({"a": -10 ** 6000, "b": 10 ** 6000})
        self.assertIs(check_unrest(PENNY, Unrest(one, one.opposite())), True)
        self.assertIs(check_unrest(PENNY, Unrest(one, one)), False)

    def test_check_unrest_of_other_outcomes(self):
        right = Wishes({"a": 1, "b": 0})
        for wrong in (Wishes({"a": 1}), Wishes({"a": 1, "c": 0}), Wishes({"a": 0, "b": 1, "c": 0})):
            self.assertIs(check_unrest(PENNY, Unrest(right, wrong)), False)
            self.assertIs(check_unrest(PENNY, Unrest(wrong, right)), False)
            self.assertIs(check_unrest(PENNY, Unrest(wrong, wrong)), False)
            self.assertIs(wishes_fit(PENNY, right, wrong), False)
            self.assertIs(wishes_fit(PENNY, wrong, right), False)
        self.assertIs(wishes_fit(PENNY, right, right), True)
        self.assertIs(check_unrest(Table.read("a"), unrest(PENNY)), False)


class SameAndOppositeWishesTest(ProgramCase):

    def cases(self):
        for table in tiny_tables():
            for wishes in all_wishes(table.outcomes, 2):
                yield table, wishes
        for at, table in enumerate([*small_tables()[::9], *mixed_tables(200)]):
            yield table, some_wishes(table.outcomes, at)

    def test_same_wishes(self):
        for table, wishes in self.cases():
            most = max(wishes.amounts().values())
            for cell in cells_in(table):
                if wishes[table[cell]] == most:
                    self.assertIs(is_stable(table, wishes, wishes, cell), True)

    def test_opposite_wishes(self):
        results = set()
        for table, wishes in self.cases():
            sure, kept = sure_and_kept(table, wishes)
            found = stable_cells(table, wishes, wishes.opposite())
            self.assertIs(found != [], sure == kept)
            self.assertTrue(all(wishes[table[cell]] == sure for cell in found))
            results.add(found != [])
        self.assertEqual(results, {True, False})


if __name__ == "__main__":
    unittest.main()
