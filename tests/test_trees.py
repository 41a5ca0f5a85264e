"""Tests of twochoosers.trees: points 2 to 4, 10, 11 and 44 to 50."""

import itertools
import re
import unittest

from cases import (
    NOT_NAMES, NOT_SETS, NOT_SIDES, SIDES, ProgramCase, all_plain_trees, in_order, made, plain_least,
    plain_text, plain_trees, sets_of, some_plain_trees)
from twochoosers import forcing
from twochoosers.errors import BadCount, BadName, BadSet, BadSide, BadText, DuplicateName
from twochoosers.tables import Table
from twochoosers.trees import Tree

# All plain trees with up to four leaves, and some of those with five and six.
PLAIN = [
    *all_plain_trees("abcd"), *some_plain_trees("abcde", 9), *some_plain_trees("abcdef", 101),
]
WORDS = {"rows": "columns", "columns": "rows"}


def leaves(*names):
    return [Tree.leaf(name) for name in names]


def leaves_of(plain):
    return [plain] if isinstance(plain, str) else [name for part in plain[1:] for name in leaves_of(part)]


def depth_of(plain):
    return 0 if isinstance(plain, str) else 1 + max(depth_of(part) for part in plain[1:])


def can_force(plain, side, wanted):
    """Does the side force the set, as point 48 says?"""
    if isinstance(plain, str):
        return plain in wanted
    told = [can_force(part, side, wanted) for part in plain[1:]]
    return any(told) if plain[0] == side else all(told)


def rows_of(plain):
    """The rows of the table for a plain tree, as point 50 says."""
    if isinstance(plain, str):
        return [[plain]]
    tables = [rows_of(part) for part in plain[1:]]
    if plain[0] == "columns":
        tables = [[list(column) for column in zip(*table)] for table in tables]
    rows = []
    for at, table in enumerate(tables):
        for row in table:
            ways = itertools.product(*[range(len(each[0])) for each in tables])
            rows.append([row[way[at]] for way in ways])
    return rows if plain[0] == "rows" else [list(column) for column in zip(*rows)]


def plain_told(text):
    """The plain tree with this text, or None if it is no tree's text; for texts that are not deep."""
    if re.fullmatch("[a-z][a-z0-9]{0,5}", text):
        return text
    found = re.fullmatch(r"(rows|columns)\((.*)\)", text, re.DOTALL)
    if not found:
        return None
    words, deep = [""], 0
    for sign in found[2]:
        deep += (sign == "(") - (sign == ")")
        if deep < 0:
            return None
        if sign == "," and deep == 0:
            words.append("")
        else:
            words[-1] += sign
    if deep or len(words) < 2 or any(not word.startswith(" ") for word in words[1:]):
        return None
    parts = [plain_told(word) for word in [words[0], *[word[1:] for word in words[1:]]]]
    if None in parts or found[1] in [part[0] for part in parts if not isinstance(part, str)]:
        return None
    names = [leaves_of(part) for part in parts]
    together = [name for part in names for name in part]
    ordered = [min(part) for part in names] == sorted(min(part) for part in names)
    if not ordered or len(together) > 6 or len(set(together)) < len(together):
        return None
    return (found[1], *parts)


class InterfaceTest(ProgramCase):

    def test_examples(self):
        tree = Tree.of_columns(Tree.leaf("a"), Tree.of_rows(Tree.leaf("c"), Tree.leaf("b")))
        self.assertEqual(
            [str(tree), str(tree.table()), tree.least_sets("rows"), tree.depth],
            ["columns(a, rows(b, c))", "a b / a c", [("a", "b"), ("a", "c")], 2])
        self.assertEqual(
            [tree.forces("columns", ("b", "c")), tree.turned() == Tree.read("rows(a, columns(b, c))")],
            [True, True])
        self.refused(
            DuplicateName, "name", "a",
            Tree.of_rows, Tree.leaf("a"), Tree.of_columns(Tree.leaf("b"), Tree.leaf("a")))
        self.refused(BadText, "text", "rows(b, a)", Tree.read, "rows(b, a)")

    def test_arguments_by_name(self):
        tree = Tree.read(text="rows(a, b)")
        self.assertTrue(Tree.leaf(name="a") == tree.parts[0])
        self.assertIs(tree.forces(side="rows", wanted=("a",)), True)
        self.assertEqual(tree.least_sets(side="columns"), [("a", "b")])

    def test_the_class_itself_has_what_the_interface_lists(self):
        listed = [
            "leaf", "of_rows", "of_columns", "read", "kind", "outcomes", "parts", "depth", "forces",
            "least_sets", "turned", "table", "__eq__", "__str__",
        ]
        for name in listed:
            self.assertIn(name, vars(Tree))
        self.assertEqual(Tree.__module__, "twochoosers.trees")

    def test_kinds_of_values(self):
        for plain in PLAIN[::7]:
            tree = made(plain)
            self.assertIs(type(tree), Tree)
            kinds = [type(tree.kind), type(tree.outcomes), type(tree.parts), type(tree.depth)]
            self.assertEqual(kinds, [str, tuple, tuple, int])
            self.assertTrue(all(type(part) is Tree for part in tree.parts))
            self.assertIs(type(str(tree)), str)
            self.assertIs(type(tree.turned()), Tree)


class MakingTest(ProgramCase):

    def test_leaf(self):
        for name in ("a", "abcdef", "z9", "rows", "leaf"):
            tree = Tree.leaf(name)
            self.assertEqual([tree.kind, tree.outcomes, tree.parts, tree.depth], ["leaf", (name,), (), 0])
        for name in NOT_NAMES:
            self.refused(BadName, "name", name, Tree.leaf, name)

    def test_properties(self):
        for plain in PLAIN:
            tree = made(plain)
            self.assertEqual(tree.kind, "leaf" if isinstance(plain, str) else plain[0])
            self.assertEqual(tree.outcomes, tuple(sorted(leaves_of(plain))))
            self.assertEqual(tree.depth, depth_of(plain))
            parts = () if isinstance(plain, str) else plain[1:]
            self.assertEqual([str(part) for part in tree.parts], [plain_text(part) for part in parts])

    def test_depth(self):
        for text, depth in (
                ("a", 0), ("rows(a, b)", 1), ("rows(a, columns(b, c))", 2),
                ("rows(columns(a, b), columns(c, d))", 2),
                ("rows(columns(a, rows(c, columns(d, rows(e, f)))), b)", 5)):
            self.assertEqual(Tree.read(text).depth, depth)

    def test_the_order_of_the_given_trees_has_no_meaning(self):
        parts = [*leaves("d", "b"), Tree.of_columns(*leaves("e", "a")), Tree.of_columns(*leaves("f", "c"))]
        texts = {str(Tree.of_rows(*given)) for given in itertools.permutations(parts)}
        self.assertEqual(texts, {"rows(columns(a, e), b, columns(c, f), d)"})
        texts = {str(Tree.of_columns(*given)) for given in itertools.permutations(parts)}
        self.assertEqual(texts, {"columns(a, b, c, d, e, f)"})

    def test_the_same_side_does_not_choose_again_at_once(self):
        a, b, c, d = leaves("a", "b", "c", "d")
        for join, other, word in (
                (Tree.of_rows, Tree.of_columns, "rows"), (Tree.of_columns, Tree.of_rows, "columns")):
            self.assertEqual(str(join(join(c, a), b)), word + "(a, b, c)")
            self.assertEqual(str(join(join(c, d), join(a, b))), word + "(a, b, c, d)")
            tree = join(join(other(a, d), c), b)
            self.assertEqual([part.kind for part in tree.parts], [WORDS[word], "leaf", "leaf"])
            self.assertEqual([part.outcomes for part in tree.parts], [("a", "d"), ("b",), ("c",)])
            self.assertTrue(join(join(a, b), c) == join(a, join(b, c)))
            self.assertFalse(join(other(a, b), c) == join(a, other(b, c)))

    def test_no_part_is_a_point_of_the_same_side(self):
        pairs = [(made(one), made(other)) for one in all_plain_trees("ab") for other in all_plain_trees("cde")]
        for one, other in pairs:
            for join, side in ((Tree.of_rows, "rows"), (Tree.of_columns, "columns")):
                tree = join(other, one)
                self.assertEqual(tree.kind, side)
                self.assertNotIn(side, [part.kind for part in tree.parts])
                names = [part.outcomes[0] for part in tree.parts]
                self.assertEqual(names, sorted(names))
                self.assertEqual(tree.outcomes, tuple(sorted(one.outcomes + other.outcomes)))
                self.assertIsNotNone(plain_told(str(tree)))

    def test_a_single_tree(self):
        for plain in PLAIN[::5]:
            self.assertTrue(Tree.of_rows(made(plain)) == made(plain))
            self.assertTrue(Tree.of_columns(made(plain)) == made(plain))

    def test_no_tree(self):
        self.refused(BadCount, "count", 0, Tree.of_rows)
        self.refused(BadCount, "count", 0, Tree.of_columns)

    def test_an_outcome_in_two_trees(self):
        for join in (Tree.of_rows, Tree.of_columns):
            self.refused(DuplicateName, "name", "a", join, *leaves("a", "a"))
            self.refused(DuplicateName, "name", "b", join, *leaves("a", "c", "b", "c", "b"))
            self.refused(
                DuplicateName, "name", "b", join, Tree.read("rows(c, d)"), Tree.read("columns(b, d)"),
                Tree.read("rows(a, columns(b, c))"))
            self.refused(DuplicateName, "name", "e", join, Tree.read("rows(c, e)"), Tree.leaf("e"))

    def test_too_many_leaves(self):
        for join in (Tree.of_rows, Tree.of_columns):
            self.assertEqual(join(*leaves(*"abcdef")).outcomes, tuple("abcdef"))
            for count in range(7, 27):
                self.refused(
                    BadCount, "count", count, join, *leaves(*"abcdefghijklmnopqrstuvwxyz"[:count]))
            five = Tree.read("rows(a, columns(b, rows(c, columns(d, e))))")
            self.refused(BadCount, "count", 7, join, five, Tree.read("columns(f, g)"))
            self.refused(BadCount, "count", 10, join, five, Tree.read("columns(f, g, h, i, j)"))

    def test_an_outcome_in_two_trees_comes_before_the_number_of_leaves(self):
        self.refused(DuplicateName, "name", "h", Tree.of_rows, *leaves(*"abcdefghh"))
        self.refused(DuplicateName, "name", "b", Tree.of_columns, *leaves(*"gfedcbab"))

    def test_an_error_changes_nothing(self):
        trees = leaves("a", "b", "a")
        self.refused(DuplicateName, "name", "a", Tree.of_rows, *trees)
        self.assertEqual([str(tree) for tree in trees], ["a", "b", "a"])

    def test_a_tree_never_changes(self):
        tree = Tree.read("rows(a, columns(b, c))")
        for name in ("kind", "outcomes", "parts", "depth"):
            with self.assertRaises(AttributeError):
                setattr(tree, name, "leaf")
        Tree.of_rows(tree, Tree.leaf("d"))
        Tree.of_columns(Tree.leaf("d"), tree)
        tree.turned()
        tree.table()
        tree.least_sets("rows").clear()
        self.refused(BadSet, "value", None, tree.forces, "rows", None)
        self.assertEqual(str(tree), "rows(a, columns(b, c))")
        self.assertEqual([tree.outcomes, tree.depth], [("a", "b", "c"), 2])


class EqualTest(ProgramCase):

    def test_equal_exactly_if_the_texts_are(self):
        plain = all_plain_trees("abc") + plain_trees(list("abcd"))[::3]
        for one in plain:
            for other in plain:
                self.assertIs(made(one) == made(other), one == other)
                self.assertIs(made(one) != made(other), one != other)

    def test_by_whatever_road_it_was_made(self):
        b, c, d, e = leaves("b", "c", "d", "e")
        road = Tree.of_rows(Tree.of_rows(Tree.of_columns(e, d), c), b)
        self.assertTrue(road == Tree.of_rows(b, Tree.of_rows(c, Tree.of_columns(d, e))))
        self.assertTrue(road == Tree.read("rows(b, c, columns(d, e))"))
        self.assertTrue(road == Tree.read("columns(b, c, rows(d, e))").turned())
        self.assertEqual(str(road.table()), str(Tree.read("rows(b, c, columns(d, e))").table()))

    def test_not_equal_to_a_value_of_another_kind(self):
        for tree in (Tree.leaf("a"), Tree.read("rows(a, b)")):
            for value in (None, True, 0, "a", "leaf", str(tree), ("a",), tree.parts, {}, Table([["a"]]), object()):
                self.assertIs(tree == value, False)
                self.assertIs(value == tree, False)
                self.assertIs(tree != value, True)


class TextTest(ProgramCase):

    def test_text(self):
        for plain in PLAIN:
            self.assertEqual(str(made(plain)), plain_text(plain))

    def test_read_gives_the_tree_with_the_text(self):
        for plain in [*PLAIN, *plain_trees(list("abcde"))]:
            tree = Tree.read(plain_text(plain))
            self.assertTrue(tree == made(plain))
            self.assertEqual(str(tree), plain_text(plain))
        for name in ("rows", "leaf", "column", "a1", "abcdef"):
            self.assertTrue(Tree.read(name) == Tree.leaf(name))
        self.assertEqual(Tree.read("rows(leaf, rows)").outcomes, ("leaf", "rows"))
        longest = "columns(aaaaaa, rows(bbbbbb, columns(cccccc, rows(dddddd, columns(eeeeee, ffffff)))))"
        self.assertEqual(str(Tree.read(longest)), longest)

    def test_texts_that_are_no_tree(self):
        texts = [
            "", " ", "\n", "(", ")", ",", "()", "rows()", "rows(", "rows(a", "rows(a)", "rows(a, b", "a b",
            "rows(a,b)", "rows(a,  b)", "rows(a , b)", "rows( a, b)", "rows(a, b )", "rows (a, b)",
            "rows(a, b) ", " rows(a, b)", "rows(a, b)\n", "\nrows(a, b)", "rows(a,\nb)", "rows(a b)",
            "rows(a, b))", "rows(a, b,)", "rows(a, b, )", "rows(, a, b)", "rows(a,, b)", "rows(a, , b)",
            "rows(a, b)c", "rows(a, b), c", "rows(a, b)rows(c, d)", "(a, b)", "a, b", "leaf(a)", "leaf(a, b)",
            "rows(b, a)", "rows(a, a)", "rows(a, rows(b, c))", "rows(rows(a, b), c)", "Rows(a, b)",
            "rows(a, columns(b))", "rows(columns(b, c), a)", "rows(a, columns(c, b))", "row(a, b)",
            "rows(a, columns(a, b))", "rows(columns(a, b), columns(a, c))", "rows(a, B)", "rows(a, abcdefg)",
            "columns", "None", "A", "1", "a_", "abcdefg", "rows(a, 1)", "rows[a, b]", "rows((a, b))", "((a))", "(a)",
            "rows(a, b, c, d, e, f, g)", "rows(a, columns(b, c, d, e, f, g))", "rows(a, columns)",
            "columns(a, columns(b, c))", "rows(a(b, c))", "rows(a, b(c))", ")rows(a, b)", "rows)a, b(",
            "rows(a, columns(b, c)", "rows(a, columns(b, c)))", "a)", "(a", "a,", ",a", "rows(a; b)",
        ]
        for text in texts:
            self.assertIsNone(plain_told(text), text)
            self.refused(BadText, "text", text, Tree.read, text)

    def check_text(self, text):
        plain = plain_told(text)
        if plain is None:
            self.refused(BadText, "text", text, Tree.read, text)
        else:
            self.assertTrue(Tree.read(text) == made(plain))

    def test_every_short_sequence_of_signs(self):
        signs = ["a", "b", "rows(", "columns(", ")", ", "]
        for length in range(7):
            for taken in itertools.product(signs, repeat=length):
                self.check_text("".join(taken))

    def test_texts_with_one_sign_changed(self):
        for text in (
                "a", "rows(a, b)", "rows(a, columns(b, c))", "columns(rows(a, d), b, rows(c, e))",
                "rows(columns(a1, f), b, columns(c, rows(d, e)))"):
            for at in range(len(text) + 1):
                self.check_text(text[:at] + text[at + 1:])
                for sign in "abcefz1A,() \n/-":
                    self.check_text(text[:at] + sign + text[at:])
                    self.check_text(text[:at] + sign + text[at + 1:])

    def test_long_and_deep_texts(self):
        many = 10 ** 5
        texts = [
            "rows(" * many, "columns(" * many + "a" + ")" * many, "rows(a, columns(b, " * many,
            "rows(a, columns(b, " * many + "c" + "))" * many, ")" * many, "(" * many, "a" * many, "," * many,
            " " * many, "\n" * many, "rows(" + "a, " * many + "a)", "rows(a, b)" * many,
            "rows(" + ", ".join("a" + str(at) for at in range(many)) + ")", "a, " * many, "rows(a, b" + ")" * many,
            "rows(" + ", ".join(f"columns(a{at}, b{at})" for at in range(many // 2)) + ")",
            "rows(a, b)" + " " * many, "rows(a," + " " * many + "b)", "rows(a, " * many + "b" + ")" * many,
            "rows(" * many + "a, b" + ")" * many, "rows(columns(" * many + "a, b" + "))" * many,
            "rows(a, columns(b, rows(c, columns(d, rows(e, columns(f, " * many,
        ]
        for text in texts:
            self.refused(BadText, "text", text, Tree.read, text)


class ForcingTest(ProgramCase):

    def test_forces_as_the_document_says(self):
        for plain in PLAIN:
            tree = made(plain)
            for side in SIDES:
                for wanted in sets_of(tree.outcomes):
                    self.assertIs(tree.forces(side, wanted), can_force(plain, side, wanted))

    def test_never_both_sides(self):
        for plain in PLAIN[::3]:
            tree = made(plain)
            for wanted in sets_of(tree.outcomes):
                rest = tuple(name for name in tree.outcomes if name not in wanted)
                self.assertIs(tree.forces("rows", wanted), not tree.forces("columns", rest))

    def test_least_sets_as_the_document_says(self):
        for plain in PLAIN:
            tree = made(plain)
            for side in SIDES:
                forced = [names for names in sets_of(tree.outcomes) if can_force(plain, side, names)]
                least = [names for names in forced if not any(set(one) < set(names) for one in forced)]
                self.assertEqual(tree.least_sets(side), least)
                self.assertEqual(tree.least_sets(side), in_order(plain_least(plain, side)))

    def test_what_least_sets_returns_is_new(self):
        tree = Tree.read("rows(a, columns(b, c))")
        told = tree.least_sets("rows")
        self.assertIs(type(told), list)
        self.assertTrue(all(type(names) is tuple for names in told))
        told.clear()
        self.assertEqual(tree.least_sets("rows"), [("a",), ("b", "c")])

    def test_refuses_sides_first(self):
        tree = Tree.read("rows(a, columns(b, c))")
        for word in NOT_SIDES:
            self.refused(BadSide, "word", word, tree.forces, word, ("a",))
            self.refused(BadSide, "word", word, tree.forces, word, None)
            self.refused(BadSide, "word", word, tree.least_sets, word)

    def test_refuses_what_is_no_set_of_its_outcomes(self):
        tree = Tree.read("rows(a, columns(b, c))")
        for value in NOT_SETS:
            for side in SIDES:
                kept = self.refused(BadSet, "value", value, tree.forces, side, value)
                self.assertIs(kept, value)
        self.refused(BadSet, "value", ("b",), Tree.leaf("a").forces, "rows", ("b",))


class TurnedTest(ProgramCase):

    def test_turned(self):
        for plain in PLAIN:
            tree = made(plain)
            turned = tree.turned()
            exchanged = re.sub(r"(rows|columns)\(", lambda found: WORDS[found[1]] + "(", str(tree))
            self.assertEqual(str(turned), exchanged)
            self.assertTrue(turned.turned() == tree)
            self.assertEqual(turned.least_sets("rows"), tree.least_sets("columns"))
            self.assertEqual(turned.least_sets("columns"), tree.least_sets("rows"))
        self.assertEqual(str(Tree.read("rows(column, rows)").turned()), "columns(column, rows)")


class TableTest(ProgramCase):

    def test_examples(self):
        for text, table in (
                ("a", "a"), ("rows(a, b)", "a / b"), ("columns(a, b)", "a b"),
                ("rows(a, columns(b, c))", "a a / b c"),
                ("rows(columns(a, b), columns(c, d))", "a a b b / c d c d"),
                ("columns(rows(a, b), rows(c, d))", "a c / a d / b c / b d"),
                ("rows(columns(a, b), columns(c, d, e))", "a a a b b b / c d e c d e")):
            self.assertEqual(str(Tree.read(text).table()), table)

    def test_as_the_document_says(self):
        for plain in [*PLAIN, *plain_trees(list("abcdef"))[::20]]:
            rows = rows_of(plain)
            if len(rows) <= 8 and len(rows[0]) <= 8:
                table = made(plain).table()
                self.assertIs(type(table), Table)
                self.assertTrue(table == Table(rows))
            else:
                count = len(rows) if len(rows) > 8 else len(rows[0])
                self.refused(BadCount, "count", count, made(plain).table)

    def test_the_same_forced_sets_and_firm(self):
        for plain in PLAIN:
            tree = made(plain)
            if max(len(rows_of(plain)), len(rows_of(plain)[0])) <= 8:
                table = tree.table()
                self.assertEqual(table.outcomes, tree.outcomes)
                self.assertIs(forcing.is_firm(table), True)
                for side in SIDES:
                    self.assertEqual(forcing.least_sets(table, side), tree.least_sets(side))
                    for wanted in sets_of(tree.outcomes):
                        self.assertIs(forcing.forces(table, side, wanted), tree.forces(side, wanted))

    def test_too_many_lines(self):
        wide = Tree.read("rows(columns(a, b, c), columns(d, e, f))")
        self.refused(BadCount, "count", 9, wide.table)
        self.refused(BadCount, "count", 9, wide.turned().table)
        eight = Tree.read("rows(columns(a, b), columns(c, d), columns(e, f))")
        self.assertEqual([eight.table().height, eight.table().width], [3, 8])
        self.assertEqual([eight.turned().table().height, eight.turned().table().width], [8, 3])
        six = Tree.read("columns(a, b, c, d, e, f)")
        self.assertEqual(str(six.table()), "a b c d e f")

    def test_turned_tables(self):
        for plain in PLAIN[::3]:
            rows = rows_of(plain)
            if max(len(rows), len(rows[0])) <= 8:
                self.assertTrue(made(plain).turned().table() == made(plain).table().turned())


if __name__ == "__main__":
    unittest.main()
