"""Tests of twochoosers.forcing: points 2, 4, 7, 10 and 25 to 30."""

import itertools
import unittest

from cases import NOT_SETS, NOT_SIDES, SIDES, ProgramCase, mixed_tables, sets_of, small_tables
from twochoosers import forcing
from twochoosers.errors import BadLine, BadSet, BadSide
from twochoosers.forcing import (
    all_sets, common, firm_gap, forces, forcing_line, is_firm, is_set, least_of, least_sets, lies_in,
    line_set, other_side, others, stops)
from twochoosers.tables import Table


def line_sets(table, side):
    """The outcomes of each line of a side."""
    lines = table.lines if side == "rows" else zip(*table.lines)
    return [set(line) for line in lines]


def can_force(table, side, wanted):
    return any(line <= set(wanted) for line in line_sets(table, side))


def rest_of(table, wanted):
    return tuple(name for name in table.outcomes if name not in wanted)


def tables():
    return [*small_tables(), *mixed_tables(100)]


class InterfaceTest(ProgramCase):

    def test_examples(self):
        table = Table.read("a b / a c")
        self.assertEqual(
            [least_sets(table, "rows"), least_sets(table, "columns"), is_firm(table)],
            [[("a", "b"), ("a", "c")], [("a",), ("b", "c")], True])
        torn = Table.read("a b / b a")
        self.assertEqual(
            [firm_gap(torn), forces(torn, "rows", ("a",)), stops(torn, "rows", ("a",))],
            [("a",), False, True])

    def test_arguments_by_name(self):
        table = Table.read("a b / a c")
        self.assertEqual(all_sets(outcomes=("a",)), [(), ("a",)])
        self.assertIs(is_set(outcomes=("a", "b"), value=("b",)), True)
        self.assertEqual(others(outcomes=("a", "b"), wanted=("b",)), ("a",))
        self.assertEqual(line_set(table=table, side="rows", number=1), ("a", "c"))
        self.assertIs(forces(table=table, side="columns", wanted=("a",)), True)
        self.assertIs(stops(table=table, side="columns", wanted=("a",)), True)
        self.assertEqual(forcing_line(table=table, side="columns", wanted=("b", "c")), 1)
        self.assertEqual(least_sets(table=table, side="columns"), [("a",), ("b", "c")])
        self.assertIsNone(firm_gap(table=table))
        self.assertIs(is_firm(table=table), True)

    def test_all_are_defined_in_this_file(self):
        for name in ("all_sets", "is_set", "others", "line_set", "forces", "stops", "is_firm",
                     "forcing_line", "least_sets", "firm_gap"):
            self.assertEqual(getattr(forcing, name).__module__, "twochoosers.forcing")


class SetsTest(ProgramCase):

    def test_all_sets(self):
        self.assertEqual(all_sets(()), [()])
        self.assertEqual(all_sets(("a",)), [(), ("a",)])
        self.assertEqual(
            all_sets(("a", "b", "c")),
            [(), ("a",), ("b",), ("c",), ("a", "b"), ("a", "c"), ("b", "c"), ("a", "b", "c")])
        for outcomes in (tuple("abcdef"), ("a", "a10", "a2", "b", "ba"), tuple("abcdefg")):
            self.assertEqual(all_sets(outcomes), sets_of(outcomes))
            self.assertIs(type(all_sets(outcomes)), list)
            self.assertTrue(all(type(names) is tuple for names in all_sets(outcomes)))

    def test_what_all_sets_returns_is_new(self):
        told = all_sets(("a", "b"))
        told.clear()
        self.assertEqual(all_sets(("a", "b")), [(), ("a",), ("b",), ("a", "b")])

    def test_is_set(self):
        outcomes = ("a", "b", "c")
        for length in range(5):
            for value in itertools.product("abcd", repeat=length):
                self.assertIs(is_set(outcomes, value), value in sets_of(outcomes), value)
        for value in NOT_SETS:
            self.assertIs(is_set(outcomes, value), False)
        self.assertIs(is_set((), ()), True)
        self.assertIs(is_set((), ("a",)), False)
        self.assertIs(is_set((), []), False)

    def test_others(self):
        self.assertEqual(others((), ()), ())
        self.assertEqual(others(("a", "b", "c"), ("b",)), ("a", "c"))
        outcomes = tuple("abcdef")
        for wanted in sets_of(outcomes):
            rest = others(outcomes, wanted)
            self.assertIs(is_set(outcomes, rest), True)
            self.assertEqual(sorted(rest + wanted), list(outcomes))
            self.assertEqual(others(outcomes, rest), wanted)


class SharedPartsTest(ProgramCase):

    def test_common_and_lies_in(self):
        for one in sets_of(("a", "b", "c")):
            for other in sets_of(("b", "c", "d")):
                self.assertEqual(common(one, other), tuple(sorted(set(one) & set(other))))
                self.assertIs(lies_in(one, other), set(one) <= set(other))

    def test_least_of(self):
        every = sets_of(("a", "b", "c"))
        self.assertEqual(least_of([]), [])
        self.assertEqual(least_of(every), [()])
        for sets in itertools.chain(*[itertools.combinations(every, length) for length in range(1, 5)]):
            least = [names for names in sets if not any(set(one) < set(names) for one in sets)]
            self.assertEqual(least_of(sets), least)
        self.assertEqual(least_of([("a",), ("a",), ("b", "c"), ("b", "c")]), [("a",), ("b", "c")])

    def test_other_side(self):
        self.assertEqual([other_side(side) for side in SIDES], ["columns", "rows"])


class LineSetTest(ProgramCase):

    def test_ordinary(self):
        table = Table.read("c a c / b a b")
        self.assertEqual([line_set(table, "rows", at) for at in range(2)], [("a", "c"), ("a", "b")])
        self.assertEqual(
            [line_set(table, "columns", at) for at in range(3)], [("b", "c"), ("a",), ("b", "c")])
        for other in tables():
            for side in SIDES:
                for at, names in enumerate(line_sets(other, side)):
                    self.assertEqual(line_set(other, side, at), tuple(sorted(names)))

    def test_refuses_what_line_refuses(self):
        table = Table.read("a b c / b b c")
        for word in NOT_SIDES:
            self.refused(BadSide, "word", word, line_set, table, word, None)
        for value in (None, True, False, -1, 2, "0", [0], (0,), {}, 10 ** 6000):
            self.refused(BadLine, "number", value, line_set, table, "rows", value)
        self.refused(BadLine, "number", 3, line_set, table, "columns", 3)


class ForcesTest(ProgramCase):

    def test_forces_and_stops_as_the_document_says(self):
        for table in tables():
            for side, other in (SIDES, SIDES[::-1]):
                for wanted in sets_of(table.outcomes):
                    forced = any(line <= set(wanted) for line in line_sets(table, side))
                    stopped = all(line & set(wanted) for line in line_sets(table, other))
                    self.assertIs(forces(table, side, wanted), forced)
                    self.assertIs(stops(table, side, wanted), stopped)
                    self.assertIs(forces(table, other, rest_of(table, wanted)), not stopped)
                    self.assertTrue(stopped or not forced)

    def test_the_empty_set_and_the_set_of_all(self):
        for text in ("a", "a b", "a b / b a", "a b c / c a b / b c a"):
            table = Table.read(text)
            for side in SIDES:
                for ask in (forces, stops):
                    self.assertIs(ask(table, side, ()), False)
                    self.assertIs(ask(table, side, table.outcomes), True)
                self.assertIsNone(forcing_line(table, side, ()))
                self.assertEqual(forcing_line(table, side, table.outcomes), 0)

    def test_forcing_line_is_the_first_one(self):
        table = Table.read("a b / c c / b b / c b")
        self.assertEqual(forcing_line(table, "rows", ("b", "c")), 1)
        self.assertEqual(forcing_line(table, "rows", ("b",)), 2)
        self.assertIsNone(forcing_line(table, "columns", ("a", "b")))
        for other in tables():
            for side in SIDES:
                for wanted in sets_of(other.outcomes):
                    numbers = [
                        at for at, line in enumerate(line_sets(other, side)) if line <= set(wanted)]
                    expected = numbers[0] if numbers else None
                    self.assertEqual(forcing_line(other, side, wanted), expected)

    def test_both_sides_do_not_force_what_excludes_each_other(self):
        for table in tables():
            for wanted in sets_of(table.outcomes):
                if forces(table, "rows", wanted):
                    self.assertIs(forces(table, "columns", rest_of(table, wanted)), False)

    def test_they_refuse_sides_and_then_sets(self):
        table = Table.read("a b c / b b c")
        for ask in (forces, stops, forcing_line):
            for word in NOT_SIDES:
                self.refused(BadSide, "word", word, ask, table, word, ("a",))
                self.refused(BadSide, "word", word, ask, table, word, None)
            for side in SIDES:
                for value in NOT_SETS:
                    kept = self.refused(BadSet, "value", value, ask, table, side, value)
                    self.assertIs(kept, value)

    def test_a_set_is_one_of_the_outcomes_of_this_table(self):
        for ask in (forces, stops, forcing_line):
            self.refused(BadSet, "value", ("a", "b"), ask, Table.read("a c"), "rows", ("a", "b"))
            self.refused(BadSet, "value", ("b",), ask, Table.read("a c"), "columns", ("b",))


class LeastSetsTest(ProgramCase):

    def test_examples(self):
        for text, rows, columns in (
                ("a", ["a"], ["a"]),
                ("a b", ["ab"], ["a", "b"]),
                ("a b / b a", ["ab"], ["ab"]),
                ("a a b / a a c / b c b", ["ab", "ac", "bc"], ["ab", "ac", "bc"]),
                ("c c / a b", ["c", "ab"], ["ac", "bc"]),
                ("a b c / a b a / c c c", ["c", "ab"], ["ac", "bc"])):
            table = Table.read(text)
            self.assertEqual(least_sets(table, "rows"), [tuple(names) for names in rows])
            self.assertEqual(least_sets(table, "columns"), [tuple(names) for names in columns])

    def test_as_the_document_says(self):
        for table in tables():
            for side in SIDES:
                forced = [names for names in sets_of(table.outcomes) if can_force(table, side, names)]
                least = [
                    names for names in forced if not any(set(one) < set(names) for one in forced)]
                self.assertEqual(least_sets(table, side), least)

    def test_a_side_forces_just_what_a_least_set_lies_in(self):
        for table in tables():
            for side in SIDES:
                least = least_sets(table, side)
                for wanted in sets_of(table.outcomes):
                    inside = any(set(names) <= set(wanted) for names in least)
                    self.assertIs(forces(table, side, wanted), inside)

    def test_what_it_returns_is_new(self):
        table = Table.read("a b / a c")
        told = least_sets(table, "rows")
        self.assertIs(type(told), list)
        self.assertTrue(all(type(names) is tuple for names in told))
        told.clear()
        self.assertEqual(least_sets(table, "rows"), [("a", "b"), ("a", "c")])

    def test_refuses_sides(self):
        for word in NOT_SIDES:
            self.refused(BadSide, "word", word, least_sets, Table.read("a b"), word)


class FirmTest(ProgramCase):

    def test_examples(self):
        for text, gap in (
                ("a", None), ("a a / b c", None), ("a a b / a a c / b c b", None), ("a b / a c", None),
                ("a b / b a", ("a",)), ("a b / c a", ("a",)), ("b a / a c", ("a",)),
                ("c b a / b c a / b b a", ("a", "c")), ("d a / a c", ("a",)), ("a b / c d", ("a", "d")),
                ("b a / d c", ("a", "d")), ("c a / b d", ("a", "b"))):
            table = Table.read(text)
            self.assertEqual(firm_gap(table), gap, text)
            self.assertIs(is_firm(table), gap is None, text)

    def test_the_first_gap_as_the_document_says(self):
        firm = 0
        for table in tables():
            gaps = [
                names for names in sets_of(table.outcomes)
                if not can_force(table, "rows", names)
                and not can_force(table, "columns", rest_of(table, names))
            ]
            self.assertEqual(firm_gap(table), gaps[0] if gaps else None)
            self.assertIs(is_firm(table), not gaps)
            firm += not gaps
        self.assertTrue(100 < firm < len(tables()) - 100)

    def test_firm_exactly_if_each_side_forces_what_it_stops(self):
        for table in tables():
            same = {side: True for side in SIDES}
            for side in SIDES:
                for wanted in sets_of(table.outcomes):
                    if stops(table, side, wanted) and not forces(table, side, wanted):
                        same[side] = False
            self.assertIs(is_firm(table), all(same.values()))
            self.assertEqual(same["rows"], same["columns"])


if __name__ == "__main__":
    unittest.main()
