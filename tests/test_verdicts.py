"""Tests of twochoosers.verdicts: points 2, 9, 10 and 63 to 66."""

import copy
import itertools
import random
import unittest

from cases import (
    ANY_VALUES, SIDES, ProgramCase, mixed_tables, sets_of, small_tables, tables_of, tiny_tables)
from twochoosers import verdicts
from twochoosers.forcing import firm_gap, forces, is_firm, is_gap
from twochoosers.tables import Table
from twochoosers.verdicts import Verdict, check_verdict, judge
from twochoosers.walks import is_rough_part, is_smooth, rough_part

PENNY = Table([["a", "b"], ["b", "a"]])
CALM = Table([["a", "a"], ["b", "c"]])
MIDDLE = Table.read("a a b / a a c / b c b")
SQUARE = ((0, 1), (0, 1))


def gaps_of(table):
    """All gaps of a table, as point 64 says."""
    return [
        names for names in sets_of(table.outcomes)
        if not forces(table, "rows", names)
        and not forces(table, "columns", tuple(one for one in table.outcomes if one not in names))
    ]


def rough_parts_of(table):
    """All rough parts of a table, as point 40 says."""
    lines = table.lines
    return [
        ((r, s), (c, d))
        for r, s in itertools.combinations(range(len(lines)), 2)
        for c, d in itertools.combinations(range(len(lines[0])), 2)
        if lines[r][c] != lines[r][d] and lines[s][c] != lines[s][d]
        and lines[r][c] != lines[s][c] and lines[r][d] != lines[s][d]
    ]


def kind_of(table):
    if not rough_parts_of(table):
        return "smooth"
    return "restless" if gaps_of(table) else "firm"


def tables():
    return [*small_tables(), *mixed_tables(200), MIDDLE]


class InterfaceTest(ProgramCase):

    def test_examples(self):
        told = check_verdict(PENNY, Verdict("restless", ("b",), ((0, 1), (0, 1))))
        self.assertEqual([judge(PENNY).kind, told, judge(CALM).kind], ["restless", True, "smooth"])

    def test_arguments_by_name(self):
        verdict = Verdict(rough=SQUARE, gap=("a",), kind="restless")
        self.assertEqual([verdict.kind, verdict.gap, verdict.rough], ["restless", ("a",), SQUARE])
        self.assertIs(check_verdict(verdict=verdict, table=PENNY), True)
        self.assertIs(type(judge(table=PENNY)), Verdict)

    def test_all_are_defined_in_this_file(self):
        for name in ("judge", "check_verdict", "Verdict"):
            self.assertEqual(getattr(verdicts, name).__module__, "twochoosers.verdicts")
        for name in ("__init__", "kind", "gap", "rough"):
            self.assertIn(name, vars(Verdict))


class JudgeTest(ProgramCase):

    def test_kinds(self):
        kinds = set()
        for table in tables():
            verdict = judge(table)
            self.assertEqual(verdict.kind, kind_of(table))
            self.assertIs(verdict.gap is None, is_firm(table))
            self.assertIs(verdict.rough is None, is_smooth(table))
            if verdict.gap is not None:
                self.assertIn(verdict.gap, gaps_of(table))
            if verdict.rough is not None:
                self.assertIn(verdict.rough, rough_parts_of(table))
                self.assertEqual({type(verdict.rough), *map(type, verdict.rough)}, {tuple})
            self.assertIs(check_verdict(table, verdict), True)
            again = judge(Table.read(str(table)))
            self.assertEqual(
                [again.kind, again.gap, again.rough], [verdict.kind, verdict.gap, verdict.rough])
            kinds.add(verdict.kind)
        self.assertEqual(kinds, {"smooth", "firm", "restless"})

    def test_examples(self):
        for text, kind in (
                ("a", "smooth"), ("a b", "smooth"), ("a a / b c", "smooth"), ("a b / b a", "restless"),
                ("a b / c d", "restless"), ("a a b / a a c / b c b", "firm"), ("a a b / a b b / a a a", "smooth")):
            self.assertEqual(judge(Table.read(text)).kind, kind, text)

    def test_the_same_kind_for_the_same_lines(self):
        chance = random.Random(7)
        for table in [*tables()[::9], *mixed_tables(60)]:
            kind = judge(table).kind
            rows = list(table.lines)
            chance.shuffle(rows)
            columns = list(zip(*rows))
            chance.shuffle(columns)
            shuffled = Table(list(zip(*columns)))
            for other in (table.turned(), table.slim(), shuffled, shuffled.slim().turned()):
                self.assertEqual(judge(other).kind, kind)


class CheckTest(ProgramCase):

    def test_every_gap_and_every_rough_part(self):
        large = [table for table in mixed_tables(60) if kind_of(table) != "smooth"][:6]
        for table in [*tiny_tables()[::4], *tables_of(3, 3, "ab")[::30], *large, MIDDLE]:
            gaps, parts = gaps_of(table) or [None], rough_parts_of(table) or [None]
            for gap in [*sets_of(table.outcomes), None]:
                for rough in [*rough_parts_of(MIDDLE), *parts[:4], SQUARE, None]:
                    for kind in ("smooth", "firm", "restless"):
                        right = kind == kind_of(table) and gap in gaps and rough in parts
                        self.assertIs(check_verdict(table, Verdict(kind, gap, rough)), right)

    def test_all_rough_parts_will_do(self):
        for table in mixed_tables(100):
            gap = firm_gap(table)
            for part in rough_parts_of(table)[::7]:
                self.assertIs(check_verdict(table, Verdict(kind_of(table), gap, part)), True)

    def test_gap_and_rough_part_of_any_value(self):
        values = [
            *ANY_VALUES, [], (), ["b"], "b", ("b", "a"), ("c",), (("a",),), {"a": 1}, 0, False, ("a", "a"),
            [[0, 1], [0, 1]], ((0, 1), [0, 1]), ([0, 1], (0, 1)), [(0, 1), (0, 1)], ((1, 0), (0, 1)),
            ((0, 1), (1, 0)), ((0, 0), (0, 1)), ((0, 1), (1, 1)), ((0, True), (0, 1)), ((False, 1), (0, 1)),
            ((0, 1), (0, True)), ((0, 1), (0, 2)), ((0, 2), (0, 1)), ((-1, 1), (0, 1)), ((0, 1), (-2, 1)),
            ((0, 1),), ((0, 1), (0, 1), (0, 1)), ((0, 1, 1), (0, 1)), ((0,), (0, 1)), (("0", "1"), (0, 1)),
            ((None, 1), (0, 1)), ((0, 1), None), {(0, 1): (0, 1)}, ((0, 10 ** 6000), (0, 1)),
            (((0, 1), (0, 1)),), (((0,), 1), (0, 1)), ((0, [1]), (0, 1)),
        ]
        for value in values:
            self.assertIs(is_gap(PENNY, value), False)
            self.assertIs(is_rough_part(PENNY, value), False)
            self.assertIs(check_verdict(PENNY, Verdict("restless", value, SQUARE)), False)
            self.assertIs(check_verdict(PENNY, Verdict("restless", ("a",), value)), False)
            for kind in ("smooth", "firm", "restless"):
                for table in (CALM, MIDDLE):
                    right = kind == kind_of(table) and value is None
                    self.assertIs(
                        check_verdict(table, Verdict(kind, value, rough_part(table))), right)
                self.assertIs(
                    check_verdict(CALM, Verdict(kind, None, value)), kind == "smooth" and value is None)
        self.assertIs(check_verdict(PENNY, Verdict("restless", ("a",), SQUARE)), True)
        self.assertIs(check_verdict(MIDDLE, Verdict("firm", None, ((1, 2), (1, 2)))), True)
        self.assertIs(check_verdict(CALM, Verdict("smooth", None, None)), True)

    def test_kind_of_any_value(self):
        values = [*ANY_VALUES, "Restless", "restless ", ["restless"], ("restless",), {"restless": 1}, "firm"]
        for value in values:
            self.assertIs(check_verdict(PENNY, Verdict(value, ("a",), SQUARE)), False)


class CopiesTest(ProgramCase):

    def test_the_properties_equal_the_arguments(self):
        for value in [*ANY_VALUES, [{"a": [1, (2, [3])]}], {("a", 1): {"b": [None]}}, (1, [2, {"c": []}])]:
            kept = [Verdict(value, 1, 2).kind, Verdict(1, value, 2).gap, Verdict(1, 2, value).rough]
            self.assertEqual(kept, [value] * 3)
            self.assertEqual([type(told) for told in kept], [type(value)] * 3)

    def test_later_changes_have_no_effect(self):
        for inner in (["a"], {"a": 1}, [["a"]], {"a": ["b"]}, (["a"], {"b": ["c"]}), [{"a": [[["b"]]]}]):
            before = copy.deepcopy(inner)

            def spoil(value):
                if isinstance(value, (list, dict)):
                    for item in list(value) if isinstance(value, list) else list(value.values()):
                        spoil(item)
                    value.clear()
                elif isinstance(value, tuple):
                    for item in value:
                        spoil(item)

            verdict = Verdict(inner, inner, inner)
            spoil(inner)
            self.assertEqual([verdict.kind, verdict.gap, verdict.rough], [before] * 3)
            for name in ("kind", "gap", "rough"):
                spoil(getattr(verdict, name))
            self.assertEqual([verdict.kind, verdict.gap, verdict.rough], [before] * 3)

    def test_the_order_of_keys_is_kept_and_true_stays_true(self):
        verdict = Verdict({"b": True, "a": 1}, {1: True}, (True, 1, 0, False))
        self.assertEqual(list(verdict.kind), ["b", "a"])
        self.assertIs(verdict.gap[1], True)
        self.assertEqual([type(item) for item in verdict.rough], [bool, int, int, bool])

    def test_a_verdict_never_changes_and_equals_nothing_of_another_kind(self):
        verdict = judge(PENNY)
        for name in ("kind", "gap", "rough"):
            with self.assertRaises(AttributeError):
                setattr(verdict, name, None)
        for value in (None, "restless", ("restless", ("a",), SQUARE), {}, object(), PENNY):
            self.assertIs(verdict == value, False)
            self.assertIs(verdict != value, True)


if __name__ == "__main__":
    unittest.main()
