"""Tests of twochoosers.shapes: points 2, 7, 9, 10 and 51 to 54."""

import unittest

from cases import (
    ANY_VALUES, SIDES, ProgramCase, all_plain_trees, in_order, made, mixed_tables, plain_least, plain_text,
    sets_of, small_tables, some_plain_trees, tables_of)
from twochoosers import shapes
from twochoosers.errors import BadCount, NotFirm
from twochoosers.forcing import firm_gap, is_firm, least_sets
from twochoosers.shapes import check_double_meet, double_meet, has_tree_sets, tree_of
from twochoosers.tables import Table
from twochoosers.trees import Tree

TWO_OF_THREE = Table.read("a a b / a a c / b c b")


def tables():
    return [*small_tables(), *mixed_tables(200), *tables_of(2, 3, "abcd")[::20], TWO_OF_THREE]


def both_least(table):
    """The least forced sets of both sides of a table."""
    return tuple(tuple(least_sets(table, side)) for side in SIDES)


def texts_by_sets(letters):
    """The texts of all trees with some of these leaves, by the least forced sets of both sides."""
    texts = {}
    for plain in all_plain_trees(letters):
        sets = tuple(tuple(in_order(plain_least(plain, side))) for side in SIDES)
        texts.setdefault(sets, []).append(plain_text(plain))
    return texts


def meets(table):
    """All tuples that show a double meet, in order."""
    return [
        (one, other) for one in least_sets(table, "rows") for other in least_sets(table, "columns")
        if len(set(one) & set(other)) > 1
    ]


class InterfaceTest(ProgramCase):

    def test_examples(self):
        table = Table.read("a b / a c")
        self.assertEqual(
            [str(tree_of(table)), double_meet(table), has_tree_sets(table, tree_of(table))],
            ["columns(a, rows(b, c))", None, True])
        told = check_double_meet(TWO_OF_THREE, (("a", "c"), ("a", "c")))
        self.assertEqual(
            [tree_of(TWO_OF_THREE), double_meet(TWO_OF_THREE), told],
            [None, (("a", "b"), ("a", "b")), True])
        self.refused(NotFirm, "value", ("a",), tree_of, Table.read("a b / b a"))

    def test_arguments_by_name(self):
        table = Table.read("a b / a c")
        self.assertEqual(str(tree_of(table=table)), "columns(a, rows(b, c))")
        self.assertIsNone(double_meet(table=table))
        self.assertIs(has_tree_sets(table=table, tree=Tree.leaf("a")), False)
        self.assertIs(check_double_meet(table=table, value=None), False)

    def test_all_are_defined_in_this_file(self):
        for name in ("tree_of", "double_meet", "has_tree_sets", "check_double_meet"):
            self.assertEqual(getattr(shapes, name).__module__, "twochoosers.shapes")


class TreeOfTest(ProgramCase):

    def test_the_only_tree_with_the_least_sets(self):
        texts = texts_by_sets("abcdef")
        self.assertEqual({len(told) for told in texts.values()}, {1})
        found = 0
        for table in tables():
            if not is_firm(table):
                kept = self.refused(NotFirm, "value", firm_gap(table), tree_of, table)
                self.assertIs(type(kept), tuple)
                continue
            tree = tree_of(table)
            expected = texts.get(both_least(table))
            self.assertEqual(None if tree is None else [str(tree)], expected, str(table))
            found += tree is not None
        self.assertTrue(found > 200)

    def test_trees_of_the_tables_of_trees(self):
        for plain in [
                *all_plain_trees("abcd"), *some_plain_trees("abcde", 3), *some_plain_trees("abcdef", 37)]:
            tree = made(plain)
            try:
                table = tree.table()
            except BadCount:
                continue
            self.assertTrue(tree_of(table) == tree)
            self.assertTrue(tree_of(table.turned()) == tree.turned())
            self.assertTrue(tree_of(Table(table.lines[::-1])) == tree)
            self.assertIsNone(double_meet(table))

    def test_outcomes_in_no_least_set_are_no_leaves(self):
        for text, tree in (
                ("a b / a a", "a"), ("b a / a a", "a"), ("a b c / a a a", "a"), ("a b / c b / b b", "b"),
                ("a b / a c / a d", "columns(a, rows(b, c, d))"), ("a a / a b / c c", "rows(a, c)"),
                ("a a a / b c c / a a d", "rows(a, columns(b, c))")):
            self.assertEqual(str(tree_of(Table.read(text))), tree)

    def test_equal_tables_have_equal_trees(self):
        for table in mixed_tables(40):
            if is_firm(table):
                again = tree_of(Table([list(row) for row in table.lines]))
                self.assertEqual(str(again), str(tree_of(table)))


class DoubleMeetTest(ProgramCase):

    def test_the_first_one(self):
        some = 0
        for table in tables():
            found = meets(table)
            told = double_meet(table)
            self.assertEqual(told, found[0] if found else None)
            if found:
                self.assertEqual([type(told), type(told[0]), type(told[1])], [tuple] * 3)
            some += found != []
        self.assertTrue(some > 20)

    def test_for_a_firm_table_exactly_one_is_none(self):
        results = set()
        for table in tables():
            if is_firm(table):
                results.add((tree_of(table) is None, double_meet(table) is None))
        self.assertEqual(results, {(True, False), (False, True)})

    def test_tables_that_are_not_firm(self):
        self.assertEqual(double_meet(Table.read("a b / b a")), (("a", "b"), ("a", "b")))
        self.assertIsNone(double_meet(Table.read("a b / c d")))

    def test_check_double_meet(self):
        large = [table for table in mixed_tables(200) if len(table.outcomes) == 4 and meets(table)]
        for table in [*small_tables()[::9], *large[:3], TWO_OF_THREE]:
            found = meets(table)
            for one in sets_of(table.outcomes):
                for other in sets_of(table.outcomes):
                    self.assertIs(check_double_meet(table, (one, other)), (one, other) in found)

    def test_check_double_meet_of_any_value(self):
        two = ("a", "b")
        values = [
            *ANY_VALUES, (two,), (two, two, two), [two, two], (list(two), two), (two, list(two)), two, "ab",
            (two, None), (None, two), (two, "ab"), ("ab", two), (two, ("b", "a")), (("b", "a"), two), (two, ()),
            (two, (two,)), ((two, two),), {two: two}, (("a", "b", "c"), two), (two, ("a", "b", "b")), ((), ()),
            (two, {"a": 1, "b": 2}), (two, ("a", 1)), (two, ("a", ["b"])), (True, two), (two, 10 ** 6000),
        ]
        for value in values:
            self.assertIs(check_double_meet(TWO_OF_THREE, value), False)
        self.assertIs(check_double_meet(TWO_OF_THREE, (two, two)), True)
        self.assertIs(check_double_meet(TWO_OF_THREE, (("a", "b"), ("a", "c"))), False)

    def test_the_check_takes_what_double_meet_returns(self):
        for table in tables():
            told = double_meet(table)
            self.assertIs(check_double_meet(table, told), told is not None)


class HasTreeSetsTest(ProgramCase):

    def test_as_the_document_says(self):
        trees = [(plain, made(plain)) for plain in all_plain_trees("abc")]
        for table in tables()[::8]:
            for plain, tree in trees:
                same = [least_sets(table, side) == in_order(plain_least(plain, side)) for side in SIDES]
                self.assertIs(has_tree_sets(table, tree), all(same))

    def test_the_tree_of_a_table(self):
        for table in tables():
            if is_firm(table) and tree_of(table) is not None:
                self.assertIs(has_tree_sets(table, tree_of(table)), True)
                self.assertIs(has_tree_sets(table, Tree.of_rows(Tree.leaf("zzz"), tree_of(table))), False)

    def test_both_sides_count(self):
        table = Table.read("a b / b a / a a / b b")
        self.assertEqual(least_sets(table, "rows"), [("a",), ("b",)])
        self.assertIs(has_tree_sets(table, Tree.read("rows(a, b)")), True)
        uneven = Table.read("a c / b d")
        for side, text in (
                ("rows", "rows(columns(a, c), columns(b, d))"), ("columns", "columns(rows(a, b), rows(c, d))")):
            tree = Tree.read(text)
            self.assertEqual(least_sets(uneven, side), tree.least_sets(side))
            self.assertIs(has_tree_sets(uneven, tree), False)

    def test_trees_that_are_too_large_for_a_table(self):
        wide = Tree.read("rows(columns(a, b, c), columns(d, e, f))")
        self.assertIs(has_tree_sets(Table.read("a b c / d e f"), wide), False)


if __name__ == "__main__":
    unittest.main()
