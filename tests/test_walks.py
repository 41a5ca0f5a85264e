"""Tests of twochoosers.walks: points 2, 6, 8, 9, 10 and 36 to 43."""

import inspect
import itertools
import unittest

from cases import (
    ANY_VALUES, ProgramCase, all_wishes, cells_in, leading_on, mixed_tables, small_tables, some_wishes,
    tables_of, tiny_tables)
from twochoosers import walks
from twochoosers.errors import BadCell, BadCount, IsSmooth, UnlikeOutcomes
from twochoosers.forcing import is_firm
from twochoosers.stable import is_stable, stable_cells
from twochoosers.tables import Table
from twochoosers.walks import (
    Round, check_round, improvements, is_path, is_smooth, longest, rough_part, round_case, walk)
from twochoosers.wishes import Wishes

PENNY = Table([["a", "b"], ["b", "a"]])
CALM = Table([["a", "a"], ["b", "c"]])
ONE = Wishes({"a": 1, "b": 2, "c": 0})
OTHER = Wishes({"a": 0, "b": 1, "c": 2})
ROWS_WANT_A = Wishes({"a": 1, "b": 0})
COLUMNS_WANT_B = Wishes({"a": 0, "b": 1})
AROUND = ((0, 0), (0, 1), (1, 1), (1, 0))
OTHER_OUTCOMES = [("a",), ("a", "b"), ("a", "b", "d"), ("a", "b", "c", "d"), ("d", "e", "f")]


def wishes_for(outcomes):
    return Wishes({name: 0 for name in outcomes})


def longest_from(onward):
    """The length of the longest way along these steps, or None if one of them leads around."""
    known = {}
    begun = set()

    def leads_around(cell):
        """Is there a way back to a cell on the way? If not, note the length of the longest way."""
        if cell in known:
            return False
        if cell in begun:
            return True
        begun.add(cell)
        if any(leads_around(there) for there in onward[cell]):
            return True
        known[cell] = max([1 + known[there] for there in onward[cell]], default=0)
        return False

    if any(leads_around(cell) for cell in onward):
        return None
    return max(known.values())


def rough_parts(table):
    """All rough parts of a table, in order."""
    lines = table.lines
    parts = []
    for rows in itertools.combinations(range(len(lines)), 2):
        for columns in itertools.combinations(range(len(lines[0])), 2):
            same_in_a_row = any(lines[row][columns[0]] == lines[row][columns[1]] for row in rows)
            same_in_a_column = any(lines[rows[0]][at] == lines[rows[1]][at] for at in columns)
            if not same_in_a_row and not same_in_a_column:
                parts.append((rows, columns))
    return parts


def cases():
    """Tables with wishes of both sides."""
    for table in tiny_tables()[::2]:
        for one, other in itertools.product(all_wishes(table.outcomes, 1), repeat=2):
            yield table, one, other
    for at, table in enumerate(mixed_tables(100)):
        yield table, some_wishes(table.outcomes, at), some_wishes(table.outcomes, -at - 1)


class InterfaceTest(ProgramCase):

    def test_examples(self):
        self.assertEqual(
            [walk(CALM, ONE, OTHER, (0, 0), 9), longest(CALM, ONE, OTHER), is_smooth(CALM)],
            [[(0, 0), (1, 0), (1, 1), (0, 1)], 3, True])
        self.assertEqual(
            [rough_part(PENNY), check_round(PENNY, round_case(PENNY))], [((0, 1), (0, 1)), True])

    def test_arguments_by_name(self):
        both = {"table": CALM, "row_wishes": ONE, "column_wishes": OTHER}
        self.assertEqual(list(improvements(cell=(0, 0), **both)), [(1, 0)])
        self.assertEqual(walk(most=1, cell=(0, 0), **both), [(0, 0), (1, 0)])
        self.assertIs(is_path(cells=[(0, 0), (1, 0)], **both), True)
        self.assertEqual(longest(**both), 3)
        self.assertIs(is_smooth(table=CALM), True)
        self.assertIsNone(rough_part(table=CALM))
        told = Round(cells=AROUND, column_wishes=COLUMNS_WANT_B, row_wishes=ROWS_WANT_A)
        self.assertIs(check_round(told=told, table=PENNY), True)
        self.assertEqual(len(round_case(table=PENNY).cells), 4)

    def test_all_are_defined_in_this_file(self):
        for name in ("improvements", "walk", "is_path", "is_smooth", "check_round", "longest",
                     "rough_part", "round_case", "Round"):
            self.assertEqual(getattr(walks, name).__module__, "twochoosers.walks")
        for name in ("__init__", "row_wishes", "column_wishes", "cells"):
            self.assertIn(name, vars(Round))


class ImprovementsTest(ProgramCase):

    def test_a_generator(self):
        self.assertTrue(inspect.isgeneratorfunction(improvements))
        told = improvements(CALM, ONE, OTHER, (1, 0))
        self.assertEqual(next(told), (1, 1))
        self.assertEqual(list(told), [])

    def test_ascending_order(self):
        table = Table.read("a b a / c b c / a c a")
        one = Wishes({"a": 2, "b": 0, "c": 1})
        self.assertEqual(list(improvements(table, one, one, (1, 1))), [(1, 0), (1, 2), (2, 1)])
        self.assertEqual(list(improvements(table, one, one, (0, 1))), [(0, 0), (0, 2), (2, 1)])
        self.assertEqual(list(improvements(table, one, one, (2, 1))), [(2, 0), (2, 2)])
        self.assertEqual(list(improvements(table, one.opposite(), one, (2, 1))), [(0, 1), (1, 1), (2, 0), (2, 2)])
        self.assertEqual(list(improvements(table, one, one, (0, 0))), [])

    def test_as_the_document_says(self):
        for table, one, other in cases():
            for cell, onward in leading_on(table, one, other).items():
                self.assertEqual(list(improvements(table, one, other, cell)), onward)
                self.assertIs(is_stable(table, one, other, cell), onward == [])

    def test_refuses_what_is_stable_refuses(self):
        right = wishes_for("abc")

        def begun(*given):
            next(improvements(*given), None)

        for names in OTHER_OUTCOMES:
            wrong = wishes_for(names)
            for cell in ((0, 0), None):
                self.refused(UnlikeOutcomes, "names", names, begun, CALM, wrong, right, cell)
                self.refused(UnlikeOutcomes, "names", names, begun, CALM, right, wrong, cell)
                self.refused(UnlikeOutcomes, "names", names, begun, CALM, wrong, wishes_for("xyz"), cell)
        for value in [*ANY_VALUES, (0, 2), (2, 0), (True, 1), [0, 0], ()]:
            kept = self.refused(BadCell, "value", value, begun, CALM, right, right, value)
            self.assertIs(kept, value)


class WalkTest(ProgramCase):

    def test_as_the_document_says(self):
        for table, one, other in cases():
            onward = leading_on(table, one, other)
            for cell in cells_in(table)[:6]:
                for most in (0, 1, 2, 3, 50):
                    expected = [cell]
                    while onward[expected[-1]] and len(expected) - 1 < most:
                        expected.append(onward[expected[-1]][0])
                    told = walk(table, one, other, cell, most)
                    self.assertEqual(told, expected)
                    self.assertIs(is_path(table, one, other, told), True)

    def test_it_ends_behind_so_many_improvements(self):
        around = [(0, 0), (0, 1), (1, 1), (1, 0)]
        for most in (0, 1, 4, 5, 999, 1000):
            told = walk(PENNY, ROWS_WANT_A, COLUMNS_WANT_B, (0, 0), most)
            self.assertEqual(told, [around[at % 4] for at in range(most + 1)])

    def test_it_ends_with_a_stable_cell(self):
        self.assertEqual(walk(CALM, ONE, OTHER, (0, 1), 1000), [(0, 1)])
        self.assertEqual(walk(CALM, ONE, OTHER, (1, 1), 1000), [(1, 1), (0, 1)])
        self.assertEqual(walk(CALM, ONE, OTHER, (0, 0), 3), [(0, 0), (1, 0), (1, 1), (0, 1)])
        self.assertEqual(walk(CALM, ONE, OTHER, (0, 0), 2), [(0, 0), (1, 0), (1, 1)])
        self.assertEqual(walk(CALM, ONE, OTHER, (0, 0), 0), [(0, 0)])

    def test_what_it_returns_is_new(self):
        told = walk(CALM, ONE, OTHER, (0, 0), 9)
        self.assertIs(type(told), list)
        told.clear()
        self.assertEqual(walk(CALM, ONE, OTHER, (1, 1), 9), [(1, 1), (0, 1)])

    def test_refuses_wishes_then_the_cell_then_most(self):
        right = wishes_for("abc")
        for names in OTHER_OUTCOMES:
            wrong = wishes_for(names)
            for cell, most in (((0, 0), 3), (None, 3), ((0, 0), -1), (None, None)):
                self.refused(UnlikeOutcomes, "names", names, walk, CALM, wrong, right, cell, most)
                self.refused(UnlikeOutcomes, "names", names, walk, CALM, right, wrong, cell, most)
                self.refused(
                    UnlikeOutcomes, "names", names, walk, CALM, wrong, wishes_for("xyz"), cell, most)
        for value in [*ANY_VALUES, (0, 2), (2, 0), (True, 1), [0, 0], ()]:
            for most in (3, -1, None):
                kept = self.refused(BadCell, "value", value, walk, CALM, right, right, value, most)
                self.assertIs(kept, value)
        for value in ANY_VALUES:
            kept = self.refused(BadCount, "count", value, walk, CALM, right, right, (0, 0), value)
            self.assertIs(kept, value)


class PathTest(ProgramCase):

    def test_every_short_sequence(self):
        for table, one, other in [
                (CALM, ONE, OTHER), (PENNY, ROWS_WANT_A, COLUMNS_WANT_B), (CALM, ONE, ONE),
                (Table.read("a b c"), ONE, OTHER)]:
            onward = leading_on(table, one, other)
            for length in range(1, 5):
                for cells in itertools.product(cells_in(table), repeat=length):
                    steps = zip(cells, cells[1:])
                    expected = all(there in onward[cell] for cell, there in steps)
                    self.assertIs(is_path(table, one, other, cells), expected)
                    self.assertIs(is_path(table, one, other, list(cells)), expected)

    def test_a_cell_does_not_lead_to_itself_or_across(self):
        self.assertIs(is_path(CALM, ONE, OTHER, [(0, 0), (0, 0)]), False)
        self.assertIs(is_path(CALM, ONE, OTHER, [(1, 1), (0, 0)]), False)
        self.assertIs(is_path(CALM, ONE, OTHER, [(0, 0), (1, 0), (0, 1)]), False)

    def test_a_path_may_come_to_a_cell_again(self):
        cells = list(AROUND) * 3
        self.assertIs(is_path(PENNY, ROWS_WANT_A, COLUMNS_WANT_B, cells), True)
        self.assertIs(is_path(PENNY, ROWS_WANT_A, COLUMNS_WANT_B, cells[::-1]), False)

    def test_any_value(self):
        values = [
            *ANY_VALUES, (), [], [(0, 0), None], [(0, 0), [1, 0]], [[0, 0]], ((0, 0), (2, 0)),
            [(0, 2)], [(0, 0), (1, 0), (-1, 1)], [(False, 0)], [(0, 0), (True, 0)], [(0, 0), (1, False)],
            {(0, 0): 1}, "00", [(0, 0), (1, 0), 5], (0, 0), [0, 0], [(0, 0, 0)], [(0,)], [{}], [()],
            [(0, 0), (1, 0), "11"], [((0, 0),)], [None], [(0, 10 ** 6000)],
        ]
        for value in values:
            # The only one of ANY_VALUES that holds a cell, and nothing else.
            if value != ((0, 0),):
                self.assertIs(is_path(CALM, ONE, OTHER, value), False)
        self.assertIs(is_path(CALM, ONE, OTHER, ((0, 0),)), True)
        self.assertIs(is_path(CALM, ONE, OTHER, [(0, 0), (1, 0), (1, 1), (0, 1)]), True)

    def test_refuses_wishes(self):
        right = wishes_for("abc")
        for names in OTHER_OUTCOMES:
            wrong = wishes_for(names)
            for cells in ([(0, 0)], [], None, [(9, 9)]):
                self.refused(UnlikeOutcomes, "names", names, is_path, CALM, wrong, right, cells)
                self.refused(UnlikeOutcomes, "names", names, is_path, CALM, right, wrong, cells)
                self.refused(UnlikeOutcomes, "names", names, is_path, CALM, wrong, wishes_for("xyz"), cells)

    def test_it_does_not_change_the_list(self):
        cells = [(0, 0), (1, 0)]
        is_path(CALM, ONE, OTHER, cells)
        self.assertEqual(cells, [(0, 0), (1, 0)])


class LongestTest(ProgramCase):

    def test_as_the_document_says(self):
        results = set()
        for table, one, other in cases():
            expected = longest_from(leading_on(table, one, other))
            self.assertEqual(longest(table, one, other), expected, str(table))
            results.add(expected)
        self.assertTrue({None, 0, 1, 2, 3} <= results)

    def test_all_outcomes_liked_alike(self):
        for table in mixed_tables(10):
            wishes = wishes_for(table.outcomes)
            self.assertEqual(longest(table, wishes, wishes), 0)

    def test_one_line(self):
        table = Table.read("a b c d e f")
        wishes = Wishes({name: at for at, name in enumerate("abcdef")})
        self.assertEqual(longest(table, wishes, wishes), 5)
        self.assertEqual(longest(table.turned(), wishes, wishes), 5)
        self.assertEqual(longest(table.turned(), wishes, wishes_for("abcdef")), 5)
        self.assertEqual(longest(table, wishes, wishes_for("abcdef")), 0)

    def test_a_round_beside_stable_cells(self):
        table = Table.read("a b c / b a c / c c c")
        one = Wishes({"a": 1, "b": 0, "c": 5})
        self.assertIsNone(longest(table, one, Wishes({"a": 0, "b": 1, "c": 5})))
        self.assertIn((2, 2), stable_cells(table, one, Wishes({"a": 0, "b": 1, "c": 5})))
        self.assertEqual(longest(table, one, one), 2)

    def test_refuses_wishes(self):
        right = wishes_for("abc")
        for names in OTHER_OUTCOMES:
            wrong = wishes_for(names)
            self.refused(UnlikeOutcomes, "names", names, longest, CALM, wrong, right)
            self.refused(UnlikeOutcomes, "names", names, longest, CALM, right, wrong)
            self.refused(UnlikeOutcomes, "names", names, longest, CALM, wrong, wishes_for("xyz"))


class SmoothTest(ProgramCase):

    def test_examples(self):
        for text, part in (
                ("a", None), ("a b c", None), ("a / b / c", None), ("a a / b c", None),
                ("a b / a c", None), ("a b / c b", None), ("a b / c c", None),
                ("a b / b a", ((0, 1), (0, 1))), ("a b / c d", ((0, 1), (0, 1))),
                ("a b / b c", ((0, 1), (0, 1))), ("a a b / a a c / b c b", ((1, 2), (1, 2))),
                ("a a b / a a a / b b a", ((0, 2), (0, 2))),
                ("a a a / a a b / a b a", ((1, 2), (1, 2)))):
            self.assertEqual(rough_part(Table.read(text)), part, text)
            self.assertIs(is_smooth(Table.read(text)), part is None, text)

    def test_as_the_document_says(self):
        smooth = 0
        for table in [*small_tables(), *mixed_tables(300)]:
            parts = rough_parts(table)
            part = rough_part(table)
            self.assertEqual(part, parts[0] if parts else None)
            self.assertIs(is_smooth(table), parts == [])
            if parts:
                self.assertEqual([type(part), type(part[0]), type(part[1])], [tuple] * 3)
            smooth += parts == []
        self.assertTrue(smooth > 100)

    def test_the_last_part_of_a_large_table(self):
        lines = [["a"] * 8 for _ in range(8)]
        lines[6][7] = "b"
        lines[7][6] = "b"
        self.assertEqual(rough_part(Table(lines)), ((6, 7), (6, 7)))
        self.assertEqual(rough_part(Table(lines[::-1])), ((0, 1), (6, 7)))

    def test_a_smooth_table_is_firm(self):
        for table in [*small_tables(), *mixed_tables(300)]:
            if is_smooth(table):
                self.assertIs(is_firm(table), True, str(table))
        self.assertIs(is_smooth(Table.read("a a b / a a c / b c b")), False)
        self.assertIs(is_firm(Table.read("a a b / a a c / b c b")), True)

    def test_smooth_exactly_if_all_improvements_end(self):
        for table in [*tiny_tables(), *tables_of(3, 3, "ab")[::5], *tables_of(2, 3, "abc")[::20]]:
            some = all_wishes(table.outcomes, 1)
            ends = [longest(table, one, other) for one, other in itertools.product(some, repeat=2)]
            self.assertIs(is_smooth(table), None not in ends, str(table))

    def test_in_a_smooth_table_no_walk_comes_to_a_cell_twice(self):
        smooth = [table for table in mixed_tables(300) if is_smooth(table)]
        self.assertTrue(len(smooth) > 50)
        for at, table in enumerate([*smooth, *[table for table in tiny_tables() if is_smooth(table)]]):
            one = some_wishes(table.outcomes, at)
            other = some_wishes(table.outcomes, -at - 1)
            self.assertIsNotNone(longest(table, one, other))
            for cell in cells_in(table):
                told = walk(table, one, other, cell, 1000)
                self.assertEqual(len(set(told)), len(told))
                self.assertIs(is_stable(table, one, other, told[-1]), True)


class RoundTest(ProgramCase):

    def test_the_properties_are_the_arguments(self):
        cells = [(0, 0), (0, 1)]
        told = Round(ONE, OTHER, cells)
        self.assertTrue(told.row_wishes == ONE)
        self.assertTrue(told.column_wishes == OTHER)
        self.assertEqual(told.cells, ((0, 0), (0, 1)))
        self.assertIs(type(told.cells), tuple)
        cells.append((1, 1))
        cells[0] = (1, 0)
        self.assertEqual(told.cells, ((0, 0), (0, 1)))
        self.assertEqual(Round(ONE, OTHER, AROUND).cells, AROUND)
        self.assertEqual(Round(ONE, OTHER, []).cells, ())
        with self.assertRaises(AttributeError):
            told.cells = ()
        for value in (None, 1, "a", (ONE, OTHER, cells), {}, object()):
            self.assertIs(told == value, False)

    def test_check_round_of_every_short_sequence(self):
        for table, one, other in [
                (CALM, ONE, OTHER), (PENNY, ROWS_WANT_A, COLUMNS_WANT_B),
                (PENNY, COLUMNS_WANT_B, ROWS_WANT_A), (PENNY, ROWS_WANT_A, ROWS_WANT_A)]:
            onward = leading_on(table, one, other)
            for length in range(0, 6):
                for cells in itertools.product(cells_in(table), repeat=length):
                    steps = zip(cells, cells[1:] + cells[:1])
                    expected = length > 0 and all(there in onward[cell] for cell, there in steps)
                    self.assertIs(check_round(table, Round(one, other, list(cells))), expected)

    def test_check_round(self):
        def checked(cells):
            return check_round(PENNY, Round(ROWS_WANT_A, COLUMNS_WANT_B, cells))

        for start in range(4):
            self.assertIs(checked(AROUND[start:] + AROUND[:start]), True)
            self.assertIs(checked((AROUND[start:] + AROUND[:start])[::-1]), False)
        self.assertIs(checked(AROUND * 2), True)
        self.assertIs(checked(AROUND[:3]), False)
        self.assertIs(checked(AROUND + AROUND[:1]), False)
        for cells in ([], (), [(0, 0)], [(0, 0), (0, 1)], [(2, 0)], [*AROUND[:3], (2, 0)],
                      [*AROUND[:3], (-1, 0)], [*AROUND[:3], (1,)], [*AROUND[:3], (1, 0, 0)], [()],
                      [*AROUND[:3], ()], [(0, 2), (2, 2), (2, 0)]):
            self.assertIs(checked(cells), False)

    def test_check_round_of_other_outcomes(self):
        for wrong in (Wishes({"a": 1}), Wishes({"a": 1, "c": 0}), Wishes({"a": 0, "b": 1, "c": 0})):
            self.assertIs(check_round(PENNY, Round(ROWS_WANT_A, wrong, AROUND)), False)
            self.assertIs(check_round(PENNY, Round(wrong, COLUMNS_WANT_B, AROUND)), False)
            self.assertIs(check_round(PENNY, Round(wrong, wrong, AROUND)), False)
            self.assertIs(check_round(PENNY, Round(wrong, wrong, [])), False)

    def test_check_round_takes_longer_rounds_and_any_integers(self):
        table = Table.read("a b c / b c a / c a b")
        one = Wishes({"a": 10 ** 6000, "b": 0, "c": -10 ** 6000})
        for table, wishes in ((table, one), (PENNY, ROWS_WANT_A)):
            told = walk(table, wishes, wishes.opposite(), (0, 0), 100)
            again = told[-1:] + told[:-1]
            start = [at for at in range(100) if told[at] == told[100]][-1]
            self.assertIs(check_round(table, Round(wishes, wishes.opposite(), told[start:100])), True)
            self.assertIs(check_round(table, Round(wishes, wishes.opposite(), again[::-1])), False)

    def test_round_case(self):
        rough = 0
        for table in [*small_tables(), *mixed_tables(300)]:
            if is_smooth(table):
                self.refused_alone(IsSmooth, round_case, table)
                continue
            rough += 1
            told = round_case(table)
            self.assertIs(type(told), Round)
            self.assertEqual(len(told.cells), 4)
            self.assertEqual(len(set(told.cells)), 4)
            for wishes in (told.row_wishes, told.column_wishes):
                self.assertEqual(wishes.outcomes, table.outcomes)
                self.assertTrue(set(wishes.amounts().values()) <= {0, 1})
            onward = leading_on(table, told.row_wishes, told.column_wishes)
            for cell, there in zip(told.cells, told.cells[1:] + told.cells[:1]):
                self.assertIn(there, onward[cell])
            self.assertIs(check_round(table, told), True)
            self.assertIsNone(longest(table, told.row_wishes, told.column_wishes))
            again = round_case(Table.read(str(table)))
            self.assertEqual(again.cells, told.cells)
            self.assertTrue(again.row_wishes == told.row_wishes)
            self.assertTrue(again.column_wishes == told.column_wishes)
        self.assertTrue(rough > 100)

    def test_round_case_refuses_smooth_tables(self):
        for text in ("a", "a b", "a / b", "a a / b c"):
            self.refused_alone(IsSmooth, round_case, Table.read(text))


if __name__ == "__main__":
    unittest.main()
