"""Tests of twochoosers.tables: points 2, 5, 10, 11 and 19 to 24."""

import copy
import itertools
import unittest

from cases import (
    ANY_VALUES, NOT_NAMES, NOT_SIDES, SIDES, ProgramCase, cells_in, mixed_tables, small_tables)
from twochoosers.errors import BadCell, BadCount, BadLine, BadName, BadSide, BadText
from twochoosers.forcing import is_firm
from twochoosers.tables import Table, cells_of, is_cell
from twochoosers.walks import is_smooth


class InterfaceTest(ProgramCase):

    def test_examples(self):
        table = Table([["a", "b"], ["a", "c"]])
        self.assertEqual(
            [str(table), table.outcomes, table[(1, 1)], table.line("columns", 1), table.turned().lines],
            ["a b / a c", ("a", "b", "c"), "c", ("b", "c"), (("a", "a"), ("b", "c"))])
        self.assertEqual(str(Table.read("a a b / a a b / c c b").slim()), "a b / c b")
        self.refused(BadCount, "count", 1, Table.read, "a b / a")

    def test_arguments_by_name(self):
        table = Table(lines=[["a", "b"]])
        self.assertEqual(table.line(side="columns", number=1), ("b",))
        self.assertEqual(str(table.with_line(side="rows", names=["c", "b"])), "a b / c b")
        self.assertEqual(str(table.without_line(side="columns", number=0)), "b")
        self.assertTrue(Table.read(text="a b") == table)

    def test_the_class_itself_has_what_the_interface_lists(self):
        listed = [
            "__init__", "__getitem__", "__eq__", "__str__", "lines", "outcomes", "height", "width",
            "line", "turned", "with_line", "without_line", "slim", "read",
        ]
        for name in listed:
            self.assertIn(name, vars(Table))
        self.assertEqual(Table.__module__, "twochoosers.tables")

    def test_kinds_of_values(self):
        table = Table.read("a b b / c b b")
        for value in (table.lines, table.outcomes, table.line("rows", 0), table.line("columns", 0)):
            self.assertIs(type(value), tuple)
        self.assertTrue(all(type(row) is tuple for row in table.lines))
        self.assertEqual([type(table.height), type(table.width)], [int, int])
        made = [
            Table.read("a"), table.turned(), table.slim(), table.with_line("rows", list("abc")),
            table.with_line("columns", ("a", "b")), table.without_line("rows", 0),
            table.without_line("columns", 0),
        ]
        for other in made:
            self.assertIs(type(other), Table)
            self.assertIs(type(other.lines), tuple)
            self.assertTrue(all(type(row) is tuple for row in other.lines))


class ConstructorTest(ProgramCase):

    def test_ordinary(self):
        table = Table([["win", "a1", "b"], ["b", "b", "win"]])
        self.assertEqual(table.lines, (("win", "a1", "b"), ("b", "b", "win")))
        self.assertEqual(table.outcomes, ("a1", "b", "win"))
        self.assertEqual([table.height, table.width], [2, 3])

    def test_outcomes_ascend_as_strings_do(self):
        table = Table([["b", "a10", "a"], ["a2", "z", "ab"]])
        self.assertEqual(table.outcomes, ("a", "a10", "a2", "ab", "b", "z"))

    def test_numbers_of_rows_and_columns(self):
        for height, width in itertools.product(range(0, 11), repeat=2):
            lines = [["a"] * width for _ in range(height)]
            if not 1 <= height <= 8:
                self.refused(BadCount, "count", height, Table, lines)
            elif not 1 <= width <= 8:
                self.refused(BadCount, "count", width, Table, lines)
            else:
                table = Table(lines)
                self.assertEqual([table.height, table.width], [height, width])

    def test_rows_of_other_lengths(self):
        self.refused(BadCount, "count", 1, Table, [["a", "b"], ["a"]])
        self.refused(BadCount, "count", 3, Table, [["a", "b"], ["a", "b", "c"]])
        self.refused(BadCount, "count", 0, Table, [["a", "b"], ["a", "b"], [], ["a"]])
        self.refused(BadCount, "count", 3, Table, [["a", "b"], ["a", "b", "c"], ["a"]])
        self.refused(BadCount, "count", 9, Table, [["a"], ["a"], ["a"] * 9])

    def test_the_order_of_the_counts(self):
        self.refused(BadCount, "count", 9, Table, [["a"] * 10] * 9)
        self.refused(BadCount, "count", 9, Table, [[]] * 9)
        self.refused(BadCount, "count", 10, Table, [["a"] * 10, ["a"], []])
        self.refused(BadCount, "count", 0, Table, [[], ["a"]])
        self.refused(BadCount, "count", 9, Table, [["a"]] + [["a", "a"]] * 8)

    def test_names(self):
        for name in NOT_NAMES:
            self.refused(BadName, "name", name, Table, [[name]])
            self.refused(BadName, "name", name, Table, [["a", "b"], ["c", name]])

    def test_the_first_wrong_name_row_by_row(self):
        self.refused(BadName, "name", "Z", Table, [["a", "b", "Z"], ["A", "B", "C"]])
        self.refused(BadName, "name", "Y", Table, [["a", "Y", "A"], ["X", "b", "b"]])

    def test_counts_of_lines_come_before_names(self):
        self.refused(BadCount, "count", 9, Table, [["A"]] * 9)
        self.refused(BadCount, "count", 9, Table, [["A"] * 9])
        self.refused(BadCount, "count", 1, Table, [["A", "B"], ["C"]])

    def test_number_of_outcomes(self):
        for count in range(1, 9):
            lines = [["a"] * 8, list("abcdefgh"[:count]) + ["a"] * (8 - count)]
            if count <= 6:
                self.assertEqual(Table(lines).outcomes, tuple("abcdefgh"[:count]))
            else:
                self.refused(BadCount, "count", count, Table, lines)

    def test_names_come_before_the_number_of_outcomes(self):
        self.refused(BadName, "name", "H", Table, [list("abcdefgH")])

    def test_an_error_changes_nothing(self):
        lines = [["a", "b"], ["a", "B"]]
        self.refused(BadName, "name", "B", Table, lines)
        self.assertEqual(lines, [["a", "b"], ["a", "B"]])

    def test_tuples_in_place_of_lists(self):
        table = Table([["a", "b"], ["c", "b"]])
        for lines in ((("a", "b"), ("c", "b")), [("a", "b"), ["c", "b"]], (["a", "b"], ("c", "b"))):
            self.assertTrue(Table(lines) == table)
            self.assertEqual(Table(lines).lines, (("a", "b"), ("c", "b")))


class CopiesTest(ProgramCase):

    def test_later_changes_of_the_lists_have_no_effect(self):
        lines = [["a", "b"], ["a", "c"]]
        table = Table(lines)
        lines[0][0] = "d"
        lines[1].append("e")
        lines.append(["f"])
        self.assertEqual(table.lines, (("a", "b"), ("a", "c")))
        self.assertEqual([str(table), table.outcomes], ["a b / a c", ("a", "b", "c")])
        self.assertEqual([table.height, table.width, table[(0, 0)]], [2, 2, "a"])
        self.assertEqual(table.line("columns", 0), ("a", "a"))

    def test_later_changes_of_an_added_line_have_no_effect(self):
        for side in SIDES:
            names = ["a", "b"]
            table = Table.read("a b / c c").with_line(side, names)
            names[0] = "d"
            names.append("e")
            self.assertEqual(table.line(side, 2), ("a", "b"))

    def test_no_call_changes_its_arguments_or_the_table(self):
        lines = [["a", "a", "b"], ["a", "a", "b"], ["c", "c", "b"]]
        names = ["a", "d", "d"]
        table = Table(lines)
        for side in SIDES:
            table.with_line(side, names)
            table.without_line(side, 1)
            table.line(side, 1)
            self.refused(BadCount, "count", 4, table.with_line, side, list("abcd"))
            self.refused(BadLine, "number", 3, table.without_line, side, 3)
        table.turned()
        table.slim()
        self.assertEqual(lines, [["a", "a", "b"], ["a", "a", "b"], ["c", "c", "b"]])
        self.assertEqual(names, ["a", "d", "d"])
        self.assertEqual(str(table), "a a b / a a b / c c b")
        self.assertEqual(table.outcomes, ("a", "b", "c"))

    def test_a_table_never_changes(self):
        table = Table.read("a b / a c")
        for name in ("lines", "outcomes", "height", "width"):
            with self.assertRaises(AttributeError):
                setattr(table, name, ())
        with self.assertRaises(TypeError):
            table[(0, 0)] = "c"
        self.assertEqual(str(table), "a b / a c")


class LookingTest(ProgramCase):

    def test_every_cell(self):
        for table in mixed_tables(40):
            for row, column in cells_in(table):
                name = table.lines[row][column]
                self.assertEqual(table[(row, column)], name)
                self.assertEqual(table.line("rows", row)[column], name)
                self.assertEqual(table.line("columns", column)[row], name)
            self.assertEqual(cells_of(table), cells_in(table))
            self.assertEqual(table.height, len(table.lines))
            self.assertEqual({table.width}, {len(row) for row in table.lines})
            self.assertEqual(list(table.outcomes), sorted({x for row in table.lines for x in row}))

    def test_any_value_that_is_no_cell(self):
        table = Table.read("a b c / b b c")
        values = [*ANY_VALUES, 0, 1, (0, 3), (2, 0), (-1, 0), (0, -1), (8, 8), (0, 10 ** 6000)]
        values += [(True, 1), (0, True), (False, False), (None, 0), [1, 1], "00", {0: 0, 1: 1}, ()]
        for value in values:
            with self.assertRaises(BadCell) as context:
                table[value]
            self.assertIs(context.exception.value, value)
            self.assertIs(is_cell(table, value), False)

    def test_cells_of_a_wide_and_of_a_high_table(self):
        wide = Table([list("abc")])
        self.assertEqual([wide[(0, 2)], wide.turned()[(2, 0)]], ["c", "c"])
        self.assertIs(is_cell(wide, (0, 2)), True)
        self.assertIs(is_cell(wide, (2, 0)), False)
        self.assertIs(is_cell(wide.turned(), (0, 2)), False)

    def test_a_table_is_not_iterated_over(self):
        with self.assertRaises(TypeError):
            iter(Table([["a"]]))

    def test_line_refuses_sides(self):
        table = Table.read("a b c / b b c")
        for word in NOT_SIDES:
            self.refused(BadSide, "word", word, table.line, word, 0)
            self.refused(BadSide, "word", word, table.line, word, None)

    def test_line_refuses_numbers(self):
        table = Table.read("a b c / b b c")
        for value in [*ANY_VALUES, 2, 3, 8, 10 ** 6000, (0,), "1", [1]]:
            kept = self.refused(BadLine, "number", value, table.line, "rows", value)
            self.assertIs(kept, value)
            if value != 2:
                self.refused(BadLine, "number", value, table.line, "columns", value)
        self.assertEqual(table.line("columns", 2), ("c", "c"))

    def test_turned(self):
        self.assertEqual(Table.read("a b c / d e f").turned().lines, (("a", "d"), ("b", "e"), ("c", "f")))
        for table in mixed_tables(40):
            turned = table.turned()
            self.assertEqual([turned.height, turned.width], [table.width, table.height])
            for row, column in cells_in(table):
                self.assertEqual(turned[(column, row)], table[(row, column)])
            self.assertTrue(turned.turned() == table)
            self.assertEqual(turned.outcomes, table.outcomes)


class TextTest(ProgramCase):

    def test_read_gives_the_table_with_the_text(self):
        for table in [*small_tables(), *mixed_tables(40)]:
            text = " / ".join(" ".join(row) for row in table.lines)
            self.assertEqual(str(table), text)
            self.assertTrue(Table.read(text) == table)
        self.assertEqual(Table.read("win").lines, (("win",),))
        self.assertEqual(Table.read("a1 b / c d").lines, (("a1", "b"), ("c", "d")))

    def test_texts_that_are_not_made_of_words(self):
        texts = [
            "", " ", "/", " / ", " /", "/ ", "\n", "a ", " a", "a  b", "a\nb", "a\n", "\na", "a/b",
            "a /b", "a/ b", "a /", "/ a", "a / ", " / a", "a / / b", "a //  b", "a // b", "a  / b",
            "a /  b", "a / b /", "a / b / ", "a/", "/a", "a / /", "a b\n/ c d", "a\n/\nb", "a b / c /d",
        ]
        for text in texts:
            self.refused(BadText, "text", text, Table.read, text)

    def test_every_short_text(self):
        for length in range(7):
            for signs in itertools.product("a /", repeat=length):
                text = "".join(signs)
                lines = [line.split(" ") for line in text.split(" / ")]
                if all(word and "/" not in word for line in lines for word in line):
                    self.assertEqual(" / ".join(" ".join(line) for line in lines), text)
                    if all(len(line) == len(lines[0]) for line in lines):
                        self.assertEqual(str(Table.read(text)), text)
                else:
                    self.refused(BadText, "text", text, Table.read, text)

    def test_the_text_comes_before_what_the_constructor_raises(self):
        for text in ("A b /", "a b / a ", "a b c d e f g h i\n", " / ".join("a" * 9) + " /", "A\nB"):
            self.refused(BadText, "text", text, Table.read, text)

    def test_then_what_the_constructor_raises(self):
        self.refused(BadCount, "count", 9, Table.read, " / ".join("a" * 9))
        self.refused(BadCount, "count", 9, Table.read, " ".join("a" * 9))
        self.refused(BadCount, "count", 3, Table.read, "a b / a b c / A")
        self.refused(BadName, "name", "B", Table.read, "a B / C d")
        self.refused(BadName, "name", "(", Table.read, "a ( / C d")
        self.refused(BadName, "name", "abcdefg", Table.read, "abcdefg")
        self.refused(BadCount, "count", 7, Table.read, "a b c d e f g")
        self.refused(BadCount, "count", 5000, Table.read, " / ".join(["a"] * 5000))

    def test_equal(self):
        table = Table.read("a b / c d")
        self.assertIs(table == Table([["a", "b"], ["c", "d"]]), True)
        self.assertIs(table != Table([["a", "b"], ["c", "d"]]), False)
        for text in ("c d / a b", "b a / d c", "a b", "a b / c d / c d", "a b b / c d d", "a c / b d",
                     "a b c d", "a b / c e"):
            self.assertIs(table == Table.read(text), False)
            self.assertIs(table != Table.read(text), True)

    def test_not_equal_to_a_value_of_another_kind(self):
        table = Table([["a"]])
        for value in (None, True, 0, "a", [["a"]], (("a",),), {"a": 1}, object(), table.lines):
            self.assertIs(table == value, False)
            self.assertIs(value == table, False)
            self.assertIs(table != value, True)


class OtherLinesTest(ProgramCase):

    def test_with_line(self):
        table = Table.read("a b c / b b c")
        self.assertEqual(str(table.with_line("rows", ["d", "a", "a"])), "a b c / b b c / d a a")
        self.assertEqual(str(table.with_line("columns", ("d", "a"))), "a b c d / b b c a")
        self.assertEqual(str(Table.read("a").with_line("columns", ["b"])), "a b")

    def test_with_line_refuses(self):
        table = Table.read("a b c / b b c")
        for word in NOT_SIDES:
            self.refused(BadSide, "word", word, table.with_line, word, [])
        for side, length in (("rows", 3), ("columns", 2)):
            for count in range(0, 10):
                if count != length:
                    self.refused(BadCount, "count", count, table.with_line, side, ["A"] * count)
                    self.refused(BadCount, "count", count, table.with_line, side, ("A",) * count)
        self.refused(BadName, "name", "B", table.with_line, "rows", ["d", "B", "C"])
        self.refused(BadName, "name", "B", table.with_line, "columns", ["B", "A"])
        self.refused(BadCount, "count", 7, Table.read("a b c d e").with_line, "rows", list("efgab"))
        self.refused(BadCount, "count", 7, Table.read("a b c d e f").with_line, "columns", ["g"])

    def test_with_line_refuses_a_ninth_line(self):
        full = Table([["a", "b"]] * 8)
        self.refused(BadCount, "count", 9, full.with_line, "rows", ["A", "a"])
        self.refused(BadCount, "count", 9, full.turned().with_line, "columns", ["A", "a"])
        self.refused(BadCount, "count", 3, full.with_line, "rows", ["A", "a", "b"])

    def test_without_line(self):
        table = Table.read("a b c / d e f")
        self.assertEqual(str(table.without_line("rows", 0)), "d e f")
        self.assertEqual(str(table.without_line("rows", 1)), "a b c")
        self.assertEqual(str(table.without_line("columns", 0)), "b c / e f")
        self.assertEqual(str(table.without_line("columns", 1)), "a c / d f")
        self.assertEqual(str(table.without_line("columns", 2)), "a b / d e")
        self.assertEqual(table.without_line("columns", 2).outcomes, ("a", "b", "d", "e"))

    def test_without_line_refuses(self):
        table = Table.read("a b c / b b c")
        for word in NOT_SIDES:
            self.refused(BadSide, "word", word, table.without_line, word, None)
        for value in [*ANY_VALUES, 3, 8, 10 ** 6000]:
            for side in SIDES:
                kept = self.refused(BadLine, "number", value, table.without_line, side, value)
                self.assertIs(kept, value)
        one = Table.read("a")
        for side in SIDES:
            self.refused(BadCount, "count", 0, one.without_line, side, 0)
            self.refused(BadLine, "number", 1, one.without_line, side, 1)
            self.refused(BadLine, "number", False, one.without_line, side, False)
        self.refused(BadCount, "count", 0, Table.read("a b").without_line, "rows", 0)
        self.refused(BadCount, "count", 0, Table.read("a / b").without_line, "columns", 0)

    def test_they_undo_each_other(self):
        for table in mixed_tables(60):
            for side in SIDES:
                lines = list(table.lines if side == "rows" else table.turned().lines)
                if len(lines) == 1:
                    continue
                for number in range(len(lines)):
                    rest = lines[:number] + lines[number + 1:]
                    less = table.without_line(side, number)
                    self.assertEqual([less.line(side, at) for at in range(len(rest))], rest)
                    more = less.with_line(side, lines[number])
                    self.assertEqual([more.line(side, at) for at in range(len(lines))],
                                     rest + [lines[number]])


class SlimTest(ProgramCase):

    def test_examples(self):
        for text, slim in (
                ("a", "a"), ("a a", "a"), ("a / a", "a"), ("a a / a a", "a"), ("a b / b a", "a b / b a"),
                ("b b a / c c a / b b a", "b a / c a"), ("a b a / c d c", "a b / c d"),
                ("a b / c d / a b / c d", "a b / c d"), ("b a / b a / a b", "b a / a b")):
            self.assertEqual(str(Table.read(text).slim()), slim)

    def test_slim_as_the_document_says(self):
        for table in [*small_tables(), *mixed_tables(200)]:
            rows = list(dict.fromkeys(table.lines))
            columns = list(dict.fromkeys(zip(*rows)))
            self.assertEqual(table.slim().lines, tuple(zip(*columns)))
            self.assertEqual(table.slim().outcomes, table.outcomes)
            self.assertTrue(table.slim().slim() == table.slim())

    def test_the_slim_and_the_turned_table_are_of_the_same_kind(self):
        kinds = set()
        for table in [*small_tables(), *mixed_tables(200)]:
            kind = [is_firm(table), is_smooth(table)]
            for other in (table.slim(), table.turned(), table.turned().slim()):
                self.assertEqual([is_firm(other), is_smooth(other)], kind, str(table))
            kinds.add(tuple(kind))
        self.assertEqual(kinds, {(True, True), (True, False), (False, False)})

    def test_equal_arguments_give_equal_results(self):
        for table in mixed_tables(20):
            again = Table(copy.deepcopy([list(row) for row in table.lines]))
            self.assertTrue(again.slim() == table.slim())
            self.assertTrue(again.turned() == table.turned())


if __name__ == "__main__":
    unittest.main()
