"""Tests of twochoosers.boxes: points 2, 9, 10 and 80 to 83."""

import itertools
import random
import unittest

from cases import (
    ProgramCase, all_plain_trees, cells_in, made, mixed_tables, plain_trees, small_tables, some_plain_trees,
    tables_of)
from twochoosers import boxes
from twochoosers.boxes import box_gap, is_boxed, matching, tree_form
from twochoosers.errors import BadCount
from twochoosers.forcing import is_firm
from twochoosers.tables import Table
from twochoosers.trees import Tree

TWO_OF_THREE = Table.read("a a b / a a c / b c b")


def gaps_of(table):
    """All tuples of two cells as point 80 describes them, in ascending order."""
    return [
        ((r, c), (s, d)) for (r, c), (s, d) in itertools.product(cells_in(table), repeat=2)
        if table.lines[r][c] == table.lines[s][d] != table.lines[r][d]
    ]


def fits(slim, goal, told):
    """Do the numbers tell where each line of the one table stands in the other one?"""
    rows, columns = told
    if sorted(rows) != list(range(goal.height)) or sorted(columns) != list(range(goal.width)):
        return False
    if len(rows) != slim.height or len(columns) != slim.width:
        return False
    return all(
        slim.lines[row][column] == goal.lines[rows[row]][columns[column]] for row, column in cells_in(slim))


def matchings(table, tree):
    """All tuples that point 81 allows; for small tables only."""
    slim, goal = table.slim(), tree.table()
    if (slim.height, slim.width) != (goal.height, goal.width):
        return []
    return [
        told for told in itertools.product(
            itertools.permutations(range(slim.height)), itertools.permutations(range(slim.width)))
        if fits(slim, goal, told)
    ]


def tables_of_trees():
    """The tables of trees, as far as they are not too large, each with its tree."""
    for plain in [*all_plain_trees("abcd"), *plain_trees(list("abcde")), *some_plain_trees("abcdef", 9)]:
        try:
            yield made(plain).table(), made(plain)
        except BadCount:
            pass


def mixed_up(table, chance):
    """The table with its lines in another order, and some of them repeated."""
    rows = list(table.lines)
    rows += [chance.choice(rows) for _ in range(chance.randint(0, 8 - len(rows)))]
    chance.shuffle(rows)
    columns = list(zip(*rows))
    columns += [chance.choice(columns) for _ in range(chance.randint(0, 8 - len(columns)))]
    chance.shuffle(columns)
    return Table(list(zip(*columns)))


class InterfaceTest(ProgramCase):

    def test_examples(self):
        table = Table.read("c a c / b a b")
        self.assertEqual(
            [is_boxed(table), str(tree_form(table)), matching(table, Tree.read("columns(a, rows(b, c))"))],
            [True, "columns(a, rows(b, c))", ((1, 0), (1, 0))])
        self.assertEqual(
            [box_gap(Table.read("a b / b a")), box_gap(Table.read("x x / y x")), tree_form(TWO_OF_THREE)],
            [((0, 0), (1, 1)), ((1, 1), (0, 0)), None])

    def test_arguments_by_name(self):
        table = Table.read("a b")
        tree = Tree.read("columns(a, b)")
        self.assertIsNone(box_gap(table=table))
        self.assertIs(is_boxed(table=table), True)
        self.assertEqual(matching(tree=tree, table=table), ((0,), (0, 1)))
        self.assertTrue(tree_form(table=table) == tree)

    def test_all_are_defined_in_this_file(self):
        for name in ("box_gap", "is_boxed", "matching", "tree_form"):
            self.assertEqual(getattr(boxes, name).__module__, "twochoosers.boxes")


class BoxedTest(ProgramCase):

    def test_examples(self):
        for text, gap in (
                ("a", None), ("a a / a a", None), ("a b / c d", None), ("a a / b c", None), ("a b a", None),
                ("a b / b a", ((0, 0), (1, 1))), ("a a / a b", ((1, 0), (0, 1))),
                ("a b / b c", ((0, 1), (1, 0))), ("b a / a a", ((0, 1), (1, 0))), ("a b / a a", ((0, 0), (1, 1))),
                ("a b c / d e a", ((0, 0), (1, 2)))):
            self.assertEqual(box_gap(Table.read(text)), gap, text)
            self.assertIs(is_boxed(Table.read(text)), gap is None)

    def test_the_first_gap_as_the_document_says(self):
        boxed = 0
        for table in [*small_tables(), *mixed_tables(100), *tables_of(2, 3, "abcd")[::9]]:
            gaps = gaps_of(table)
            told = box_gap(table)
            self.assertEqual(told, gaps[0] if gaps else None)
            self.assertIs(is_boxed(table), gaps == [])
            if told is not None:
                self.assertEqual({type(told), type(told[0]), type(told[1])}, {tuple})
            boxed += not gaps
        self.assertTrue(boxed > 100)

    def test_the_last_cells_of_a_large_table(self):
        lines = [["a"] * 8 for _ in range(8)]
        self.assertIs(is_boxed(Table(lines)), True)
        lines[7][7] = "b"
        self.assertEqual(box_gap(Table(lines)), ((7, 0), (0, 7)))
        lines[7] = ["b"] * 8
        self.assertIs(is_boxed(Table(lines)), True)


class MatchingTest(ProgramCase):

    def test_as_the_document_says_for_small_tables(self):
        trees = [made(plain) for plain in all_plain_trees("abc")]
        found = 0
        for table in [*small_tables()[::3], *tables_of(2, 3, "abc")[::2]]:
            for tree in trees:
                all_told = matchings(table, tree)
                told = matching(table, tree)
                if all_told:
                    self.assertIn(told, all_told)
                    self.assertEqual({type(told), type(told[0]), type(told[1])}, {tuple})
                    found += 1
                else:
                    self.assertIsNone(told)
        self.assertTrue(found > 50)

    def test_tables_of_trees_in_any_order_with_repeats(self):
        chance = random.Random(4)
        for table, tree in tables_of_trees():
            mixed = mixed_up(table, chance)
            self.assertTrue(fits(mixed.slim(), table, matching(mixed, tree)), str(mixed))
            self.assertEqual(matching(table, tree), (tuple(range(table.height)), tuple(range(table.width))))
            self.assertEqual(matching(Table.read(str(mixed)), Tree.read(str(tree))), matching(mixed, tree))

    def test_other_trees(self):
        told = list(tables_of_trees())
        for table, tree in told[::7]:
            for other in [tree.turned(), *[another for _, another in told[::11]]]:
                if other != tree:
                    self.assertIsNone(matching(table, other))

    def test_the_same_sets_but_other_cells(self):
        tree = Tree.read("rows(columns(a, b), columns(c, d))")
        self.assertEqual(str(tree.table()), "a a b b / c d c d")
        self.assertEqual(matching(Table.read("a b a b / c c d d"), tree), ((0, 1), (0, 2, 1, 3)))
        self.assertIsNone(matching(Table.read("a c b b / c d a d"), tree))
        self.assertEqual(matching(Table.read("a a b b / c d d c"), tree), ((0, 1), (0, 1, 3, 2)))
        self.assertIsNone(matching(Table.read("a a b c / c d d b"), tree))
        self.assertIsNone(matching(Table.read("a a b / c d c"), tree))

    def test_trees_with_too_large_tables(self):
        wide = Tree.read("rows(columns(a, b, c), columns(d, e, f))")
        self.assertRaises(BadCount, wide.table)
        for text in ("a b c / d e f", "a", "a a a b b b c c / d e f d e f d e", "a d / b e / c f"):
            self.assertIsNone(matching(Table.read(text), wide))
            self.assertIsNone(matching(Table.read(text), wide.turned()))


class TreeFormTest(ProgramCase):

    def test_such_a_tree_exactly_if_firm_and_boxed(self):
        results = set()
        for table in [*small_tables(), *mixed_tables(200), *tables_of(2, 3, "abcd")[::5], TWO_OF_THREE]:
            tree = tree_form(table)
            good = (is_firm(table), is_boxed(table))
            self.assertIs(tree is not None, all(good), str(table))
            if tree is not None:
                self.assertIs(type(tree), Tree)
                self.assertTrue(fits(table.slim(), tree.table(), matching(table, tree)))
            results.add(good)
        self.assertEqual(len(results), 4)

    def test_no_tree_is_missed(self):
        trees = [made(plain) for plain in all_plain_trees("abc")]
        for table in [*small_tables()[::3], *tables_of(2, 3, "abc")[::2]]:
            found = [tree for tree in trees if matchings(table, tree)]
            self.assertLessEqual(len(found), 1)
            told = tree_form(table)
            self.assertEqual([str(tree) for tree in found], [] if told is None else [str(told)])

    def test_the_tree_of_its_table(self):
        chance = random.Random(6)
        for table, tree in tables_of_trees():
            mixed = mixed_up(table, chance)
            self.assertTrue(tree_form(mixed) == tree)
            self.assertTrue(tree_form(mixed.turned()) == tree.turned())
            self.assertTrue(tree_form(mixed.slim()) == tree)
            self.assertIs(is_boxed(mixed) and is_firm(mixed), True)

    def test_a_line_more_or_less(self):
        table = Tree.read("rows(a, columns(b, rows(c, d)))").table()
        self.assertEqual(str(table), "a a / b c / b d")
        for text in ("a a / b c / b d / a c", "a a / b c / b d / c d", "a a b / b c b / b d b", "b c / a a / b e"):
            expected = "rows(a, columns(b, rows(c, e)))" if "e" in text else None
            told = tree_form(Table.read(text))
            self.assertEqual(None if told is None else str(told), expected)


if __name__ == "__main__":
    unittest.main()
