"""Tests of what the document promises over the whole program: points 9, 10, 30, 32 and 34 to 83."""

import copy
import inspect
import random
import unittest

from cases import (
    SIDES, ProgramCase, all_plain_trees, all_wishes, made, mixed_tables, sets_of, small_tables, some_wishes,
    tables_of, tiny_tables)
from twochoosers.books import Book
from twochoosers.boxes import box_gap, is_boxed, matching, tree_form
from twochoosers.errors import BadCount, ChooserError
from twochoosers.forcing import (
    all_sets, firm_gap, forces, forcing_line, is_firm, least_sets, line_set, others, stops)
from twochoosers.joining import put, put_forces
from twochoosers.powers import Power, power_of
from twochoosers.shapes import check_double_meet, double_meet, has_tree_sets, tree_of
from twochoosers.stable import check_unrest, first_stable, is_stable, stable_cells, unrest
from twochoosers.tables import Table
from twochoosers.trees import Tree
from twochoosers.verdicts import check_verdict, judge
from twochoosers.walks import (
    check_round, improvements, is_path, is_smooth, longest, rough_part, round_case, walk)
from twochoosers.wishes import Wishes
from twochoosers.worths import alike, gap_wishes, keeping_line, parting, sure_line, worth

TREE = Tree.read("columns(a, rows(b, c))")
SMALL_TREES = [made(plain) for plain in all_plain_trees("abc")]


def told(ask, *given):
    """What a call gives, or the error that it raises with what that keeps, in plain values."""
    try:
        return plain(ask(*given))
    except ChooserError as error:
        return (type(error).__name__, vars(error))


def plain(value):
    """The value with plain values in place of objects of the program."""
    if isinstance(value, (Table, Tree)):
        return (type(value).__name__, str(value))
    if isinstance(value, Wishes):
        return value.amounts()
    if isinstance(value, Power):
        return (value.outcomes, value.sets, value.even)
    if isinstance(value, (list, tuple)):
        return [type(value).__name__, *[plain(item) for item in value]]
    if inspect.isgenerator(value):
        return [plain(item) for item in value]
    if hasattr(value, "row_wishes"):
        cells = getattr(value, "cells", None)
        return [plain(value.row_wishes), plain(value.column_wishes), cells]
    if hasattr(value, "rough"):
        return [value.kind, value.gap, value.rough]
    return value


def answers_of_table(table, one, other):
    """What all functions and methods say of a table, with wishes for both sides."""
    names = table.outcomes
    some = [*all_sets(names)[::5], names]
    found = [
        told(ask, table) for ask in (
            str, firm_gap, is_firm, unrest, is_smooth, rough_part, round_case, tree_of, double_meet, gap_wishes,
            judge, box_gap, is_boxed, tree_form, Table.turned, Table.slim)]
    found += [told(ask, table, one, other) for ask in (stable_cells, first_stable, longest)]
    found += [told(ask, table, one) for ask in (worth, sure_line, keeping_line)]
    for side in (*SIDES, "side"):
        found += [told(least_sets, table, side), told(power_of, table, side)]
        found += [told(ask, table, side, wanted) for ask in (forces, stops, forcing_line) for wanted in some]
        found += [told(ask, table, side, number) for ask in (line_set, Table.line, Table.without_line)
                  for number in (0, 1, 8, None)]
        found += [told(table.with_line, side, list(names[:1]) * count) for count in (1, 2, 3)]
    for cell in ((0, 0), (1, 1), (8, 0), None):
        found += [told(ask, table, one, other, cell) for ask in (is_stable, lambda *given: list(improvements(*given)))]
        found += [told(walk, table, one, other, cell, 9), told(is_path, table, one, other, [cell])]
        found.append(told(lambda at: table[at], cell))
    for tree in (TREE, Tree.leaf("a")):
        found += [told(ask, table, tree) for ask in (has_tree_sets, matching)]
    for name in ("a", "b"):
        found += [told(put, table, name, Table.read("x y / y x")), told(put, Table.read("x y"), "x", table)]
        found.append(told(put_forces, table, name, Table.read("x y"), "rows", ("x",)))
    found += [table.lines, table.outcomes, table.height, table.width]
    return found


def answers_of_tree(tree):
    found = [told(ask, tree) for ask in (str, Tree.table, Tree.turned)]
    found += [tree.kind, tree.outcomes, plain(tree.parts), tree.depth]
    for side in (*SIDES, "side"):
        found.append(told(tree.least_sets, side))
        found += [told(tree.forces, side, wanted) for wanted in (*sets_of(tree.outcomes), None)]
    for join in (Tree.of_rows, Tree.of_columns):
        found += [told(join, tree, Tree.leaf("z")), told(join, Tree.leaf("a"), tree), told(join, tree)]
    for text in ("a", "a b / a c", "c a c / b a b"):
        found += [told(ask, Table.read(text), tree) for ask in (has_tree_sets, matching)]
    return found


def answers_of_power(power, other):
    found = [told(Power.table, power), plain(power), plain(~power), plain(~~power)]
    found += [told(power.forces, wanted) for wanted in (*sets_of(power.outcomes), None)]
    found += [told(lambda: power | other), told(lambda: other & power), told(power.covers, other)]
    return found + [told(other.covers, power)]


class RoadsTest(ProgramCase):
    """Equal objects get the same answers, by whatever road they were made and whatever was asked before."""

    def roads_to(self, table):
        """Tables that equal this one, made in other ways."""
        rows = [list(row) for row in table.lines]
        book = Book(Table([["q"]]))
        book[(0, 0)] = rows[0][0]
        for name in rows[0][1:]:
            book.put_in("columns", [name])
        for row in rows[1:]:
            book.put_in("rows", row)
        roads = [
            Table(rows), Table(table.lines), Table.read(str(table)), table.turned().turned(), book.table(),
            Book(table).table()]
        book.turn()
        book[(0, 0)] = table.outcomes[-1]
        book.undo()
        book.undo()
        roads.append(book.table())
        if table.slim() == table:
            roads.append(put(table, table.outcomes[0], Table([[table.outcomes[0]]])))
            roads.append(put(Table.read("z"), "z", table))
            roads.append(Table([row * (8 // len(row)) for row in rows]).slim())
        if table.height < 8:
            roads.append(table.with_line("rows", rows[0]).without_line("rows", len(rows)))
        return roads

    def test_tables(self):
        for at, table in enumerate([*tiny_tables()[::9], *tables_of(2, 3, "abc")[::90], *mixed_tables(12)]):
            one, other = some_wishes(table.outcomes, at), some_wishes(table.outcomes, -at - 1)
            first = answers_of_table(table, one, other)
            for road in self.roads_to(table):
                self.assertTrue(road == table)
                self.assertEqual(answers_of_table(road, one, other), first)
                self.assertIs(alike(road, table), True)
                self.assertIsNone(parting(table, road))
            self.assertEqual(answers_of_table(table, one, other), first)

    def test_wishes(self):
        table = Table.read("a b / c a / b b")
        for at in range(20):
            one, other = some_wishes(table.outcomes, at), some_wishes(table.outcomes, -at - 1)
            first = answers_of_table(table, one, other)
            amounts = one.amounts()
            backwards = {name: amounts[name] for name in reversed(list(amounts))}
            for road in (Wishes(backwards), one.opposite().opposite(), Wishes(amounts=dict(amounts))):
                self.assertTrue(road == one)
                self.assertEqual([road.ranks(), road.outcomes], [one.ranks(), one.outcomes])
                self.assertIs(road.agrees(one), True)
                self.assertEqual(answers_of_table(table, road, other), first)

    def test_trees(self):
        for tree in SMALL_TREES:
            first = answers_of_tree(tree)
            roads = [Tree.read(str(tree)), tree.turned().turned(), Tree.of_rows(tree), Tree.of_columns(tree)]
            roads += [tree_of(tree.table()), tree_form(tree.table()), tree_of(Table(tree.table().lines[::-1]))]
            if tree.kind != "leaf":
                join = Tree.of_rows if tree.kind == "rows" else Tree.of_columns
                roads += [join(*tree.parts[::-1]), join(tree.parts[-1], join(*tree.parts[:-1]))]
            for road in roads:
                self.assertTrue(road == tree)
                self.assertEqual(answers_of_tree(road), first)
            self.assertEqual(answers_of_tree(tree), first)

    def test_powers(self):
        chance = random.Random(9)
        every = sets_of(("a", "b", "c", "d"))[1:]
        for _ in range(40):
            sets = [chance.choice(every) for _ in range(chance.randint(1, 5))]
            power = Power(list("abcd"), sets)
            other = Power(list("abcd"), [chance.choice(every), chance.choice(every)])
            first = answers_of_power(power, other)
            roads = [
                Power(("d", "b", "a", "c"), tuple(sets[::-1])), Power(power.outcomes, power.sets), ~~power,
                power | power, power & power, power | (power & other), power & (power | other)]
            if len(power.sets) <= 8 and len((~power).sets) <= 8:
                table = power.table()
                if len(table.outcomes) == 4:
                    roads += [power_of(table, "rows"), power_of(table.turned(), "columns"),
                              ~power_of(table, "columns")]
            for road in roads:
                self.assertTrue(road == power)
                self.assertEqual(answers_of_power(road, other), first)
            self.assertEqual(answers_of_power(power, other), first)

    def test_a_list_and_a_tuple_count_as_equal(self):
        self.assertTrue(Table([["a", "b"]]) == Table((("a", "b"),)))
        self.assertTrue(Wishes.ranked([["a"], ["b"]]) == Wishes.ranked((("a",), ("b",))))
        self.assertTrue(Wishes.only(("a", "b"), ("a",)) == Wishes.only(["a", "b"], ("a",)))
        wishes = Wishes({"a": 1, "b": 0})
        self.assertEqual(wishes.best(["a", "b"]), wishes.best(("a", "b")))
        table = Table.read("a b")
        self.assertTrue(table.with_line("rows", ["b", "b"]) == table.with_line("rows", ("b", "b")))
        path = [(0, 1), (0, 0)]
        self.assertIs(is_path(table, wishes, wishes, path), is_path(table, wishes, wishes, tuple(path)))
        self.assertTrue(Power(["a", "b"], [("a",)]) == Power(("a", "b"), (("a",),)))


class ResultsTest(ProgramCase):
    """The four promises of point 9, and what shows each of them."""

    def tables(self):
        return [*tiny_tables(), *tables_of(2, 3, "abc")[::6], *tables_of(3, 3, "ab")[::6], *mixed_tables(60)]

    def test_firm_tables_have_stable_cells_and_others_unrest(self):
        for at, table in enumerate(self.tables()):
            if is_firm(table):
                for seed in range(8):
                    one, other = some_wishes(table.outcomes, seed + at), some_wishes(table.outcomes, -seed - at)
                    self.assertIsNotNone(first_stable(table, one, other))
            else:
                self.assertIs(check_unrest(table, unrest(table)), True)

    def test_smooth_tables_come_to_rest_and_others_go_around(self):
        for at, table in enumerate(self.tables()):
            if is_smooth(table):
                self.assertIs(is_firm(table), True)
                one, other = some_wishes(table.outcomes, at), some_wishes(table.outcomes, -at - 1)
                self.assertIsNotNone(longest(table, one, other))
            else:
                around = round_case(table)
                self.assertIs(check_round(table, around), True)
                self.assertIsNone(longest(table, around.row_wishes, around.column_wishes))

    def test_firm_tables_have_trees_or_double_meets(self):
        for table in self.tables():
            if is_firm(table):
                tree, meet = tree_of(table), double_meet(table)
                self.assertIs(tree is None, meet is not None)
                self.assertIs(check_double_meet(table, meet), meet is not None)
                if tree is not None:
                    self.assertIs(has_tree_sets(table, tree), True)

    def test_firm_tables_are_worth_the_same_to_both_sides(self):
        for table in self.tables():
            powers = [power_of(table, side) for side in SIDES]
            self.assertIs(is_firm(table), ~powers[0] == powers[1])
            if is_firm(table):
                for wishes in all_wishes(table.outcomes, 1):
                    sure, kept = worth(table, wishes)
                    self.assertEqual(sure, kept)
            else:
                sure, kept = worth(table, gap_wishes(table))
                self.assertLess(sure, kept)

    def test_each_side_forces_what_it_stops_exactly_if_firm(self):
        for table in self.tables()[::3]:
            for side in SIDES:
                stopped = [names for names in sets_of(table.outcomes) if stops(table, side, names)]
                self.assertIs(is_firm(table), all(forces(table, side, names) for names in stopped))

    def test_a_tree_stands_in_its_table(self):
        for tree in SMALL_TREES:
            table = tree.table()
            self.assertIs(is_firm(table) and is_boxed(table) and has_tree_sets(table, tree), True)
            self.assertTrue(tree_of(table) == tree and tree_form(table) == tree)

    def test_a_tree_of_tables_put_into_tables(self):
        # A point at which one side chooses is a table of one line, with the parts put in.
        for one in SMALL_TREES[::3]:
            for name in one.outcomes:
                for word, join in (("p / q", Tree.of_rows), ("p q", Tree.of_columns)):
                    joined = put(one.table(), name, Table.read(word))
                    inner = join(Tree.leaf("p"), Tree.leaf("q"))
                    grown = self.replaced(one, name, inner)
                    self.assertTrue(tree_of(joined) == grown)
                    self.assertTrue(alike(joined, grown.table()))

    def replaced(self, tree, name, inner):
        """The tree with another one in place of a leaf."""
        if tree.kind == "leaf":
            return inner if tree.outcomes == (name,) else tree
        parts = [self.replaced(part, name, inner) for part in tree.parts]
        return Tree.of_rows(*parts) if tree.kind == "rows" else Tree.of_columns(*parts)

    def test_kinds_do_not_depend_on_the_order_of_lines(self):
        for table in self.tables()[::5]:
            kind = judge(table).kind
            for other in (table.turned(), table.slim(), Table(table.lines[::-1])):
                self.assertEqual(judge(other).kind, kind)
                self.assertIs(check_verdict(other, judge(other)), True)


class NothingChangesTest(ProgramCase):

    def test_arguments_stay_as_they_are(self):
        rows, names, sets = [["a", "b"], ["b", "c"]], ["c", "a", "b"], [("a", "b"), ("c",)]
        amounts, ranks = {"b": 1, "a": 2, "c": 3}, [["a"], ["c", "b"]]
        cells, changes = [(0, 0), (0, 1)], [("put", "rows", ["a", "a"]), ("turn",)]
        given = [rows, names, sets, amounts, ranks, cells, changes]
        before = copy.deepcopy(given)
        table, wishes = Table(rows), Wishes(amounts)
        Wishes.ranked(ranks)
        Wishes.only(names, ("a",))
        wishes.best(names)
        is_path(table, wishes, wishes, cells)
        Book(table).tried(changes)
        Book(table).put_in("rows", names[:2])
        table.with_line("columns", names[:2])
        Power(names, sets)
        self.assertEqual(given, before)
        self.assertEqual(list(amounts), ["b", "a", "c"])

    def test_lists_that_are_returned_may_be_changed(self):
        table = Table.read("a b / b c")
        wishes = Wishes({"a": 1, "b": 2, "c": 0})
        asks = [
            lambda: all_sets(table.outcomes), lambda: least_sets(table, "rows"), lambda: wishes.ranks(),
            lambda: stable_cells(table, wishes, wishes), lambda: walk(table, wishes, wishes, (0, 0), 3),
            lambda: TREE.least_sets("rows"), lambda: wishes.amounts(),
        ]
        for ask in asks:
            first = copy.deepcopy(ask())
            ask().clear()
            self.assertEqual(ask(), first)

    def test_what_raises_an_error_changes_nothing(self):
        for table in small_tables()[::40]:
            before = str(table)
            for ask in (lambda: table.with_line("rows", []), lambda: table.line("rows", None),
                        lambda: forces(table, "rows", None), lambda: table[None]):
                self.assertRaises(ChooserError, ask)
            self.assertEqual(str(table), before)
        large = Tree.read("rows(columns(a, b, c), columns(d, e, f))")
        self.assertRaises(BadCount, large.table)
        self.assertEqual(str(large), "rows(columns(a, b, c), columns(d, e, f))")
        self.assertEqual(others(("a", "b"), ("a",)), ("b",))


if __name__ == "__main__":
    unittest.main()
