"""Tests of twochoosers.joining: points 2, 7, 10 and 60 to 62."""

import itertools
import random
import unittest

from cases import (
    NOT_SETS, NOT_SIDES, SIDES, ProgramCase, mixed_tables, sets_of, tables_of, tiny_tables)
from twochoosers import joining
from twochoosers.errors import BadCount, BadSet, BadSide, DuplicateName, UnknownName
from twochoosers.forcing import forces, is_firm
from twochoosers.joining import put, put_forces
from twochoosers.tables import Table

FIRST = Table([["a"], ["b"]])
SECOND = Table([["c", "d"]])


def joined_rows(table, name, other):
    """All rows that point 60 describes, before any is left out."""
    rows = itertools.product(table.lines, other.lines)
    columns = list(itertools.product(range(table.width), range(other.width)))
    return [[lower[d] if upper[c] == name else upper[c] for c, d in columns] for upper, lower in rows]


def slim_rows(rows):
    """The rows without those that repeat an earlier one, and then without such columns."""
    kept = list(dict.fromkeys(tuple(row) for row in rows))
    return list(zip(*dict.fromkeys(zip(*kept))))


def named(table, letters):
    """The table with other names for its outcomes."""
    names = dict(zip("abcdef", letters))
    return Table([[names[name] for name in row] for row in table.lines])


def cases():
    """Tables, one of their outcomes, and tables that can be put there."""
    chance = random.Random(5)
    firsts = [*tiny_tables()[::4], *tables_of(2, 3, "abc")[::40], *mixed_tables(60)]
    seconds = [*tiny_tables()[::5], *tables_of(3, 2, "abc")[::40], *mixed_tables(80)[60:]]
    for _ in range(600):
        table = chance.choice(firsts)
        name = chance.choice(table.outcomes)
        # Names that do not stand in the table, but for the one that is replaced.
        letters = ["p", "q", "r", "s", "t", name]
        chance.shuffle(letters)
        yield table, name, named(chance.choice(seconds), letters)


def outcomes_of(table, name, other):
    return tuple(sorted({*table.outcomes, *other.outcomes} - ({name} - set(other.outcomes))))


class InterfaceTest(ProgramCase):

    def test_examples(self):
        self.assertEqual(
            [str(put(FIRST, "b", SECOND)), put_forces(FIRST, "b", SECOND, "rows", ("a",)),
             put_forces(FIRST, "b", SECOND, "columns", ("a", "c"))],
            ["a a / c d", True, True])
        self.refused(
            DuplicateName, "name", "a", put, Table([["a", "b"]]), "b", Table([["c"], ["a"]]))

    def test_arguments_by_name(self):
        given = {"other": SECOND, "name": "b", "table": FIRST}
        self.assertEqual(str(put(**given)), "a a / c d")
        self.assertIs(put_forces(wanted=("c",), side="rows", **given), False)

    def test_all_are_defined_in_this_file(self):
        for name in ("put", "put_forces"):
            self.assertEqual(getattr(joining, name).__module__, "twochoosers.joining")


class PutTest(ProgramCase):

    def test_examples(self):
        for first, name, second, result in (
                ("a", "a", "b", "b"), ("a", "a", "a", "a"), ("a", "a", "a b / c a", "a b / c a"),
                ("a b", "b", "b", "a b"), ("a b", "b", "c d", "a c d"), ("a b", "b", "c / d", "a c / a d"),
                ("a b / c a", "a", "p q", "p q b b / c c p q"),
                ("a b / b a", "b", "a2", "a a2 / a2 a"),
                ("a b / b a", "b", "c d / d c", "a a c d / a a d c / c d a a / d c a a"),
                ("a b / b a", "a", "a c", "a c b b / b b a c"),
                ("a b / a b / b b", "b", "c d", "a a c d / c d c d"),
                ("a a / b c", "b", "d / e", "a a / d c / e c")):
            self.assertEqual(str(put(Table.read(first), name, Table.read(second))), result)

    def test_as_the_document_says(self):
        results = {"large": 0, "put": 0}
        for table, name, other in cases():
            rows = slim_rows(joined_rows(table, name, other))
            outcomes = {one for row in rows for one in row}
            self.assertEqual(tuple(sorted(outcomes)), outcomes_of(table, name, other))
            wrong = [count for count, most in ((len(rows), 8), (len(rows[0]), 8), (len(outcomes), 6))
                     if count > most]
            if wrong:
                self.refused(BadCount, "count", wrong[0], put, table, name, other)
                results["large"] += 1
            else:
                told = put(table, name, other)
                self.assertIs(type(told), Table)
                self.assertEqual(told.lines, tuple(rows))
                results["put"] += 1
        self.assertTrue(min(results.values()) > 100, results)

    def test_refuses_unknown_names(self):
        for name in ("c", "ab", "", "A", "rows"):
            self.refused(UnknownName, "name", name, put, Table.read("a b"), name, SECOND)
            self.refused(UnknownName, "name", name, put, Table.read("a b"), name, Table.read("a b"))
        self.refused(UnknownName, "name", "c", put, FIRST, "c", SECOND)

    def test_refuses_common_outcomes(self):
        table = Table.read("a b / c d")
        for name, other, doubled in (
                ("a", "b", "b"), ("a", "d c / b a", "b"), ("b", "d / c", "c"), ("d", "d a", "a"),
                ("c", "x d / y z", "d")):
            self.refused(DuplicateName, "name", doubled, put, table, name, Table.read(other))

    def test_common_outcomes_come_before_counts(self):
        table = Table.read("a / b / c / d")
        self.refused(DuplicateName, "name", "b", put, table, "a", Table.read("p / q / r / s / d / b"))
        self.refused(DuplicateName, "name", "d", put, table.turned(), "a", Table.read("p q r s t d"))

    def test_the_name_itself_may_be_an_outcome_of_the_other(self):
        told = put(Table.read("a b / c a"), "a", Table.read("a d"))
        self.assertEqual(str(told), "a d b b / c c a d")

    def test_too_many_rows_then_columns_then_outcomes(self):
        column = Table.read("a / b / c / d")
        many = Table.read("p / q / r / s / t / u")
        self.refused(BadCount, "count", 9, put, column, "a", many)
        self.refused(BadCount, "count", 9, put, column.turned(), "a", many.turned())
        self.refused(BadCount, "count", 8, put, Table.read("a / b / c"), "a", many)
        self.refused(BadCount, "count", 8, put, Table.read("a b c"), "a", many.turned())
        eight = Table.read("a b / b a / a a / b b")
        self.refused(BadCount, "count", 10, put, eight, "b", Table.read("c d / d c / d d"))
        self.assertEqual(put(eight, "b", Table.read("c / d")).height, 7)
        nine = Table.read("a b b / b a b / b b a")
        three = Table.read("p q r / q r p / r p q")
        self.refused(BadCount, "count", 9, put, nine, "b", three)
        self.refused(BadCount, "count", 9, put, nine, "b", Table.read("p q r"))
        self.refused(BadCount, "count", 9, put, nine, "b", Table.read("p / q / r"))
        self.refused(BadCount, "count", 9, put, nine, "b", Table.read("p q r / q r p"))

    def test_rows_and_columns_are_counted_after_repeats_are_left_out(self):
        # 8 rows with 8 rows would be 64, of which 2 are left.
        tall = Table([["a"]] * 7 + [["b"]])
        told = put(tall, "b", Table([["c"]] * 8))
        self.assertEqual(str(told), "a / c")
        wide = put(tall.turned(), "b", Table([["c"]] * 8).turned())
        self.assertEqual(str(wide), "a c")
        # The repeated columns are not seen before the repeated rows are left out, nor needed to be.
        self.assertEqual(str(put(Table.read("a b"), "b", Table.read("c c d / c c d"))), "a c d")

    def test_seven_outcomes(self):
        self.refused(BadCount, "count", 7, put, Table.read("a b c d"), "a", Table.read("p q r s"))
        self.assertEqual(put(Table.read("a b c d"), "a", Table.read("p q r")).outcomes, tuple("bcdpqr"))

    def test_firm_into_firm_is_firm(self):
        tables = [table for table in tiny_tables() if is_firm(table)]
        done = 0
        for table in tables[::3]:
            for name in table.outcomes:
                for inner in tables[::5]:
                    other = named(inner, "pqr")
                    if len(outcomes_of(table, name, other)) <= 6:
                        self.assertIs(is_firm(put(table, name, other)), True)
                        done += 1
        self.assertTrue(done > 50)

    def test_nothing_is_changed(self):
        put(FIRST, "b", SECOND)
        self.assertEqual([str(FIRST), str(SECOND)], ["a / b", "c d"])


class PutForcesTest(ProgramCase):

    def test_as_in_the_table_also_if_it_is_too_large(self):
        results = set()
        for table, name, other in cases():
            rows = joined_rows(table, name, other)
            lines = {"rows": [set(row) for row in rows], "columns": [set(line) for line in zip(*rows)]}
            large = len(slim_rows(rows)) > 8 or len(slim_rows(rows)[0]) > 8
            outcomes = outcomes_of(table, name, other)
            for wanted in sets_of(outcomes)[::1 + len(outcomes) // 4]:
                for side in SIDES:
                    expected = any(line <= set(wanted) for line in lines[side])
                    self.assertIs(put_forces(table, name, other, side, wanted), expected)
                    results.add((large, expected))
        self.assertEqual(len(results), 4)

    def test_as_forces_says_of_the_table(self):
        table = Table.read("a b / b a")
        other = Table.read("c d / d c")
        told = put(table, "b", other)
        for side in SIDES:
            for wanted in sets_of(told.outcomes):
                self.assertIs(put_forces(table, "b", other, side, wanted), forces(told, side, wanted))

    def test_refuses_in_this_order(self):
        table = Table.read("a b / a c")
        wrong = Table.read("a d")
        for name in ("d", "", "x"):
            self.refused(UnknownName, "name", name, put_forces, table, name, wrong, "row", None)
        self.refused(DuplicateName, "name", "a", put_forces, table, "b", wrong, "row", None)
        self.refused(DuplicateName, "name", "a", put_forces, table, "c", wrong, "rows", ("a",))
        for word in NOT_SIDES:
            self.refused(BadSide, "word", word, put_forces, table, "a", wrong, word, None)
            self.refused(BadSide, "word", word, put_forces, table, "a", wrong, word, ("a",))
        for value in NOT_SETS:
            # The outcomes of the joined table are a, b and c, as those values suppose.
            kept = self.refused(
                BadSet, "value", value, put_forces, Table.read("d c / c b"), "d", Table.read("a"), "rows", value)
            self.assertIs(kept, value)

    def test_the_replaced_name_is_no_outcome_unless_it_comes_again(self):
        table = Table.read("a b")
        self.refused(BadSet, "value", ("b",), put_forces, table, "b", Table.read("c"), "rows", ("b",))
        self.refused(BadSet, "value", ("a", "b"), put_forces, table, "b", Table.read("c"), "columns", ("a", "b"))
        self.assertIs(put_forces(table, "b", Table.read("b c"), "columns", ("b",)), True)
        self.assertIs(put_forces(table, "b", Table.read("b / c"), "columns", ("b",)), False)
        self.assertIs(put_forces(table, "b", Table.read("b / c"), "rows", ("a", "b")), True)

    def test_more_than_six_outcomes(self):
        table = Table.read("a b c d e f")
        other = Table.read("p q r s t u")
        outcomes = tuple("bcdefpqrstu")
        self.assertIs(put_forces(table, "a", other, "rows", outcomes), True)
        self.assertIs(put_forces(table, "a", other, "rows", outcomes[:-1]), False)
        self.assertIs(put_forces(table, "a", other, "columns", ("u",)), True)
        self.assertIs(put_forces(table, "a", other, "columns", ()), False)
        self.refused(BadSet, "value", ("a",), put_forces, table, "a", other, "rows", ("a",))
        self.refused(BadSet, "value", ("u", "p"), put_forces, table, "a", other, "rows", ("u", "p"))


if __name__ == "__main__":
    unittest.main()
