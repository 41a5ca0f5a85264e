"""Tests of twochoosers.worths: points 2, 9, 10, 35 and 55 to 59."""

import itertools
import unittest

from cases import (
    SIDES, ProgramCase, all_wishes, mixed_tables, sets_of, small_tables, some_wishes, tables_of, tiny_tables)
from twochoosers import worths
from twochoosers.errors import IsFirm, UnlikeOutcomes
from twochoosers.forcing import forces, is_firm, least_sets
from twochoosers.stable import stable_cells
from twochoosers.tables import Table
from twochoosers.wishes import Wishes
from twochoosers.worths import alike, gap_wishes, keeping_line, parting, sure_line, worth

PENNY = Table([["a", "b"], ["b", "a"]])
CALM = Table([["a", "a"], ["b", "c"]])
LIKES = Wishes({"a": 4, "b": 9, "c": -2})
OTHER_OUTCOMES = [("a",), ("a", "b"), ("a", "b", "d"), ("a", "b", "c", "d"), ("d", "e", "f")]


def wishes_for(outcomes):
    return Wishes({name: 0 for name in outcomes})


def sure_rows(table, wishes, least):
    """The numbers of the rows all of whose outcomes have at least this integer."""
    rows = table.lines
    return [at for at, row in enumerate(rows) if all(wishes[name] >= least for name in row)]


def keeping_columns(table, wishes, most):
    """The numbers of the columns all of whose outcomes have at most this integer."""
    columns = zip(*table.lines)
    return [at for at, column in enumerate(columns) if all(wishes[name] <= most for name in column)]


def cases():
    """Tables with wishes."""
    for table in tiny_tables():
        for wishes in all_wishes(table.outcomes, 2):
            yield table, wishes
    for at, table in enumerate([*small_tables()[::5], *mixed_tables(200)]):
        yield table, some_wishes(table.outcomes, at)


def pairs():
    """Pairs of tables with the same outcomes."""
    tables = [*tiny_tables(), *tables_of(2, 3, "abc")[::15], *tables_of(3, 3, "ab")[::30], *mixed_tables(60)]
    for one, other in itertools.product(tables, repeat=2):
        if one.outcomes == other.outcomes:
            yield one, other


class InterfaceTest(ProgramCase):

    def test_examples(self):
        self.assertEqual(
            [worth(CALM, LIKES), sure_line(CALM, LIKES), keeping_line(CALM, LIKES)], [(4, 4), 0, 1])
        told = worth(PENNY, gap_wishes(PENNY))
        self.assertEqual(
            [told, alike(CALM, Table([["b", "c"], ["a", "a"], ["a", "a"]])),
             parting(PENNY, Table([["a", "b"]])) is None],
            [(0, 1), True, False])

    def test_arguments_by_name(self):
        self.assertEqual(worth(wishes=LIKES, table=CALM), (4, 4))
        self.assertEqual(sure_line(wishes=LIKES, table=CALM), 0)
        self.assertEqual(keeping_line(wishes=LIKES, table=CALM), 1)
        self.assertIs(type(gap_wishes(table=PENNY)), Wishes)
        self.assertIs(alike(one=PENNY, other=PENNY), True)
        self.assertIsNone(parting(one=PENNY, other=PENNY))

    def test_all_are_defined_in_this_file(self):
        for name in ("worth", "sure_line", "keeping_line", "gap_wishes", "alike", "parting"):
            self.assertEqual(getattr(worths, name).__module__, "twochoosers.worths")


class WorthTest(ProgramCase):

    def test_as_the_document_says(self):
        for table, wishes in cases():
            integers = [wishes[name] for name in table.outcomes]
            sure = max(least for least in integers if sure_rows(table, wishes, least))
            kept = min(most for most in integers if keeping_columns(table, wishes, most))
            self.assertEqual(worth(table, wishes), (sure, kept))
            self.assertIs(type(worth(table, wishes)), tuple)
            self.assertLessEqual(sure, kept)
            self.assertEqual(sure_line(table, wishes), sure_rows(table, wishes, sure)[0])
            self.assertEqual(keeping_line(table, wishes), keeping_columns(table, wishes, kept)[0])

    def test_the_first_of_several_lines(self):
        table = Table.read("b c c / a c a / b c c / a a a")
        wishes = Wishes({"a": 0, "b": 3, "c": 3})
        self.assertEqual([worth(table, wishes), sure_line(table, wishes)], [(3, 3), 0])
        self.assertEqual(keeping_line(table, wishes), 0)
        turned = table.turned()
        self.assertEqual([worth(turned, wishes), sure_line(turned, wishes)], [(0, 0), 0])
        self.assertEqual(keeping_line(turned, wishes), 3)

    def test_rows_before_columns(self):
        table = Table.read("a b / c d")
        wishes = Wishes({"a": 1, "b": 7, "c": 2, "d": 4})
        self.assertEqual(worth(table, wishes), (2, 2))
        self.assertEqual([sure_line(table, wishes), keeping_line(table, wishes)], [1, 0])
        self.assertEqual(worth(table.turned(), wishes), (4, 4))
        self.assertEqual([sure_line(table.turned(), wishes), keeping_line(table.turned(), wishes)], [1, 1])

    def test_integers_of_any_size(self):
        big = 10 ** 6000
        self.assertEqual(worth(PENNY, Wishes({"a": big, "b": -big})), (-big, big))
        self.assertEqual(worth(Table.read("a"), Wishes({"a": -big})), (-big, -big))

    def test_refuses_wishes(self):
        for names in OTHER_OUTCOMES:
            for ask in (worth, sure_line, keeping_line):
                self.refused(UnlikeOutcomes, "names", names, ask, CALM, wishes_for(names))

    def test_the_line_of_forced_sets(self):
        for table, wishes in cases():
            sure, kept = worth(table, wishes)
            for level in range(-4, 5):
                above = tuple(name for name in table.outcomes if wishes[name] >= level)
                below = tuple(name for name in table.outcomes if wishes[name] <= level)
                self.assertIs(forces(table, "rows", above), sure >= level)
                self.assertIs(forces(table, "columns", below), kept <= level)

    def test_a_stable_cell_for_opposite_wishes_exactly_if_the_numbers_are_equal(self):
        results = set()
        for table, wishes in cases():
            sure, kept = worth(table, wishes)
            found = stable_cells(table, wishes, wishes.opposite())
            self.assertIs(found != [], sure == kept)
            results.add(sure == kept)
        self.assertEqual(results, {True, False})

    def test_a_greatest_cell_is_stable_for_same_wishes(self):
        for table, wishes in cases():
            most = max(wishes.amounts().values())
            found = stable_cells(table, wishes, wishes)
            for row, line in enumerate(table.lines):
                for column, name in enumerate(line):
                    if wishes[name] == most:
                        self.assertIn((row, column), found)


class GapWishesTest(ProgramCase):

    def test_gap_wishes(self):
        torn = 0
        for table in [*small_tables(), *mixed_tables(200)]:
            if is_firm(table):
                self.refused_alone(IsFirm, gap_wishes, table)
                continue
            torn += 1
            told = gap_wishes(table)
            self.assertIs(type(told), Wishes)
            self.assertEqual(told.outcomes, table.outcomes)
            self.assertTrue(set(told.amounts().values()) <= {0, 1})
            self.assertEqual(worth(table, told), (0, 1))
            self.assertTrue(gap_wishes(Table.read(str(table))) == told)
        self.assertTrue(torn > 100)

    def test_firm_exactly_if_the_numbers_are_equal_for_all_wishes(self):
        for table in [*tiny_tables(), *tables_of(3, 3, "ab")[::7], *tables_of(2, 3, "abc")[::9]]:
            told = [worth(table, wishes) for wishes in all_wishes(table.outcomes, 2)]
            self.assertIs(is_firm(table), all(sure == kept for sure, kept in told))


class AlikeTest(ProgramCase):

    def test_alike_as_the_document_says(self):
        results = set()
        for one, other in pairs():
            same = all(
                forces(one, side, names) == forces(other, side, names)
                for side in SIDES for names in sets_of(one.outcomes))
            self.assertIs(alike(one, other), same)
            results.add(same)
            told = parting(one, other)
            if same:
                self.assertIsNone(told)
            else:
                self.assertIs(type(told), Wishes)
                self.assertEqual(told.outcomes, one.outcomes)
                self.assertTrue(set(told.amounts().values()) <= {0, 1})
                self.assertNotEqual(worth(one, told), worth(other, told))
        self.assertEqual(results, {True, False})

    def test_alike_tables_are_worth_the_same_for_all_wishes(self):
        tables = tiny_tables()
        for one, other in itertools.product(tables[::2], tables[::3]):
            if one.outcomes == other.outcomes and len(one.outcomes) > 1:
                same = [
                    worth(one, wishes) == worth(other, wishes) for wishes in all_wishes(one.outcomes, 2)]
                self.assertIs(alike(one, other), all(same))

    def test_tables_that_differ_for_one_side_only(self):
        for table in (PENNY, PENNY.turned()):
            self.assertIs(alike(table, Table.read("a b")), False)
            self.assertIs(alike(table, Table.read("a / b")), False)
        one = Table.read("a b / b a")
        other = Table.read("a b / b b / b a")
        self.assertEqual(least_sets(one, "columns"), least_sets(other, "columns"))
        self.assertIs(alike(one, other), False)
        self.assertIs(alike(other, one), False)
        self.assertIs(alike(one.turned(), other.turned()), False)
        for told in (parting(one, other), parting(other, one)):
            self.assertNotEqual(worth(one, told), worth(other, told))
        told = parting(one.turned(), other.turned())
        self.assertNotEqual(worth(one.turned(), told), worth(other.turned(), told))

    def test_the_order_and_number_of_lines_have_no_meaning(self):
        for table in mixed_tables(60):
            self.assertIs(alike(table, Table(table.lines[::-1])), True)
            self.assertIs(alike(table, table.slim()), True)
            self.assertIsNone(parting(table.slim(), table))

    def test_equal_tables_get_the_same_wishes(self):
        for one, other in itertools.islice(pairs(), 0, None, 40):
            told = parting(one, other)
            again = parting(Table.read(str(one)), Table.read(str(other)))
            self.assertTrue(told is again or told == again)

    def test_refuses_other_outcomes(self):
        for names in OTHER_OUTCOMES:
            for ask in (alike, parting):
                self.refused(UnlikeOutcomes, "names", names, ask, CALM, Table([names]))
                self.refused(UnlikeOutcomes, "names", ("a", "b", "c"), ask, Table([names]), CALM)


if __name__ == "__main__":
    unittest.main()
