"""Tests of twochoosers.books: points 2, 10, 11 and 67 to 73."""

import random
import unittest

from cases import ANY_VALUES, NOT_NAMES, NOT_SIDES, SIDES, ProgramCase, cells_in, mixed_tables
from twochoosers.books import Book
from twochoosers.errors import (
    BadCell, BadCount, BadLine, BadName, BadSide, ChooserError, NothingToUndo)
from twochoosers.tables import Table
from twochoosers.verdicts import Verdict, judge

NOT_CELLS = [*ANY_VALUES, 0, (0, 2), (2, 0), (0, -1), (True, 1), (0, False), [0, 0], (), "00"]


def set_cell(book, cell, name):
    book[cell] = name


def get_cell(book, cell):
    return book[cell]


def told(verdict):
    return (verdict.kind, verdict.gap, verdict.rough)


class Model:
    """A book as the document describes it: rows that are changed, and copies of all earlier ones."""

    def __init__(self, table):
        self.rows = [list(row) for row in table.lines]
        self.earlier = []

    def make(self, word, *given):
        """Make a change, and return None; or return what the error keeps, and leave all as it is."""
        rows = [list(row) for row in self.rows]
        if word == "turn":
            rows = [list(column) for column in zip(*rows)]
        elif word == "cell":
            (row, column), name = given
            rows[row][column] = name
        elif word == "put":
            side, names = given
            if len(names) != len(rows[0] if side == "rows" else rows):
                return len(names)
            if side == "rows":
                rows.append(list(names))
            else:
                rows = [[*row, name] for row, name in zip(rows, names)]
        else:
            side, number = given
            if len(rows if side == "rows" else rows[0]) == 1:
                return 0
            if side == "rows":
                del rows[number]
            else:
                rows = [row[:number] + row[number + 1:] for row in rows]
        many = len({name for row in rows for name in row})
        for count, most in ((len(rows), 8), (len(rows[0]), 8), (many, 6)):
            if count > most:
                return count
        self.earlier.append(self.rows)
        self.rows = rows
        return None


def some_change(chance, rows):
    """A change for a book with these rows, as `tried` takes it, which may go beyond the bounds."""
    word = chance.choice(["cell", "cell", "cell", "put", "take", "turn"])
    side = chance.choice(SIDES)
    lines = rows if side == "rows" else list(zip(*rows))
    if word == "cell":
        return (word, (chance.randrange(len(rows)), chance.randrange(len(rows[0]))), chance.choice("abcdefgh"))
    if word == "put":
        length = len(lines[0]) + chance.choice([0, 0, 0, 0, 0, 1])
        return (word, side, [chance.choice("abc") for _ in range(length)])
    if word == "take":
        return (word, side, chance.randrange(len(lines)))
    return ("turn",)


def change(book, word, *given):
    """Make a change that is told as `tried` takes it."""
    if word == "cell":
        book[given[0]] = given[1]
        return None
    return {"put": book.put_in, "take": book.take_out, "turn": book.turn}[word](*given)


class BookCase(ProgramCase):

    def same_as_new(self, book, rows, length):
        """Check that the book is as a new one of these rows, with so many changes made."""
        table = Table(rows)
        new = Book(table)
        self.assertTrue(book.table() == table)
        self.assertEqual(told(book.verdict()), told(judge(table)))
        self.assertEqual(len(book), length)
        for name in "abcdefgh":
            self.assertIs(name in book, name in new)
            self.assertIs(name in book, name in table.outcomes)
        for cell in cells_in(table):
            self.assertEqual(book[cell], table[cell])
        for cell in ((len(rows), 0), (0, len(rows[0])), (0, True), None):
            self.refused(BadCell, "value", cell, get_cell, book, cell)


class InterfaceTest(BookCase):

    def test_examples(self):
        book = Book(Table([["a", "a"], ["b", "c"]]))
        book[(0, 1)] = "c"
        kind = book.tried([("cell", (1, 0), "c"), ("cell", (1, 1), "a")]).kind
        self.assertEqual(
            [kind, book.verdict().kind, str(book.table()), len(book), "b" in book],
            ["restless", "smooth", "a c / b c", 1, True])

    def test_arguments_by_name(self):
        book = Book(table=Table.read("a b"))
        book.put_in(side="rows", names=["b", "c"])
        book.take_out(side="columns", number=0)
        self.assertEqual(book.tried(changes=[("turn",)]).kind, "smooth")
        self.assertEqual(str(book.table()), "b / c")

    def test_the_class_itself_has_what_the_interface_lists(self):
        listed = [
            "__init__", "table", "verdict", "tried", "put_in", "take_out", "turn", "undo", "__getitem__",
            "__setitem__", "__contains__", "__len__",
        ]
        for name in listed:
            self.assertIn(name, vars(Book))
        self.assertEqual(Book.__module__, "twochoosers.books")

    def test_kinds_of_values(self):
        book = Book(Table.read("a b"))
        self.assertIsNone(book.put_in("rows", ["a", "b"]))
        self.assertIsNone(book.take_out("rows", 0))
        self.assertIsNone(book.turn())
        self.assertIsNone(book.undo())
        self.assertIs(type(book.table()), Table)
        self.assertIs(type(book.verdict()), Verdict)
        self.assertIs(type(book.tried([])), Verdict)
        self.assertIs("a" in book, True)
        self.assertIs("c" in book, False)
        self.assertIs(type(len(book)), int)

    def test_not_equal_to_a_value_of_another_kind(self):
        book = Book(Table.read("a b"))
        for value in (None, True, 0, "a", [["a", "b"]], {}, book.table(), object()):
            self.assertIs(book == value, False)
            self.assertIs(book != value, True)

    def test_a_book_is_not_iterated_over(self):
        with self.assertRaises(TypeError):
            iter(Book(Table.read("a")))


class CellTest(BookCase):

    def test_put_an_outcome_into_a_cell(self):
        book = Book(Table.read("a b / a c"))
        set_cell(book, (1, 1), "d")
        self.assertEqual([str(book.table()), book[(1, 1)], len(book)], ["a b / a d", "d", 1])
        self.assertIs("c" in book, False)
        self.assertIs("d" in book, True)
        set_cell(book, (0, 0), "c")
        self.assertEqual([str(book.table()), len(book)], ["c b / a d", 2])

    def test_refuses_cells(self):
        book = Book(Table.read("a b / a c"))
        for value in NOT_CELLS:
            kept = self.refused(BadCell, "value", value, get_cell, book, value)
            self.assertIs(kept, value)
            for name in ("d", "D", ""):
                kept = self.refused(BadCell, "value", value, set_cell, book, value, name)
                self.assertIs(kept, value)
        self.same_as_new(book, ["ab", "ac"], 0)

    def test_refuses_names(self):
        book = Book(Table.read("a b c / d e f"))
        for name in NOT_NAMES:
            self.refused(BadName, "name", name, set_cell, book, (1, 1), name)
        self.same_as_new(book, ["abc", "def"], 0)

    def test_refuses_a_seventh_outcome(self):
        book = Book(Table.read("a b c / d e f / a a a"))
        for cell in ((0, 0), (2, 0), (2, 2)):
            self.refused(BadCount, "count", 7, set_cell, book, cell, "g")
        self.same_as_new(book, ["abc", "def", "aaa"], 0)
        book[(0, 1)] = "g"
        self.same_as_new(book, ["agc", "def", "aaa"], 1)
        self.refused(BadCount, "count", 7, set_cell, book, (0, 0), "b")
        self.refused(BadName, "name", "G", set_cell, book, (0, 0), "G")

    def test_the_table_given_and_the_tables_returned_stay_as_they_are(self):
        table = Table.read("a b / a c")
        book = Book(table)
        before = book.table()
        book[(0, 0)] = "c"
        book.turn()
        self.assertEqual([str(table), str(before), str(book.table())], ["a b / a c", "a b / a c", "c a / b c"])


class LinesTest(BookCase):

    def test_put_in(self):
        book = Book(Table.read("a b / a c"))
        names = ["c", "d"]
        book.put_in("rows", names)
        names.append("e")
        names[0] = "e"
        self.same_as_new(book, ["ab", "ac", "cd"], 1)
        book.put_in("columns", ("a", "a", "b"))
        self.same_as_new(book, ["aba", "aca", "cdb"], 2)

    def test_put_in_refuses(self):
        book = Book(Table.read("a b / a c / a d"))
        for word in NOT_SIDES:
            self.refused(BadSide, "word", word, book.put_in, word, ["A"])
        for side, length in (("rows", 2), ("columns", 3)):
            for count in range(10):
                if count != length:
                    self.refused(BadCount, "count", count, book.put_in, side, ["A"] * count)
        self.refused(BadName, "name", "B", book.put_in, "columns", ["b", "B", "C"])
        self.refused(BadCount, "count", 7, book.put_in, "columns", ["e", "f", "g"])
        self.same_as_new(book, ["ab", "ac", "ad"], 0)
        full = Book(Table([["a"] * 8] * 8))
        self.refused(BadCount, "count", 9, full.put_in, "rows", ["A"] * 8)
        self.refused(BadCount, "count", 9, full.put_in, "columns", ["a"] * 8)
        self.same_as_new(full, ["a" * 8] * 8, 0)

    def test_take_out(self):
        book = Book(Table.read("a b / a c / a d"))
        book.take_out("rows", 1)
        self.same_as_new(book, ["ab", "ad"], 1)
        book.take_out("columns", 0)
        self.same_as_new(book, ["b", "d"], 2)

    def test_take_out_refuses(self):
        book = Book(Table.read("a b / a c / a d"))
        for word in NOT_SIDES:
            self.refused(BadSide, "word", word, book.take_out, word, None)
        for value in [*ANY_VALUES, 3, 8]:
            for side in SIDES:
                kept = self.refused(BadLine, "number", value, book.take_out, side, value)
                self.assertIs(kept, value)
        self.refused(BadLine, "number", 2, book.take_out, "columns", 2)
        self.same_as_new(book, ["ab", "ac", "ad"], 0)
        for side in SIDES:
            one = Book(Table.read("a"))
            self.refused(BadCount, "count", 0, one.take_out, side, 0)
            self.refused(BadLine, "number", 1, one.take_out, side, 1)
            self.same_as_new(one, ["a"], 0)

    def test_turn(self):
        book = Book(Table.read("a b / a c / a d"))
        book.turn()
        self.same_as_new(book, ["aaa", "bcd"], 1)
        book.turn()
        self.same_as_new(book, ["ab", "ac", "ad"], 2)


class UndoTest(BookCase):

    def test_nothing_to_undo(self):
        book = Book(Table.read("a b"))
        self.refused_alone(NothingToUndo, book.undo)
        book.turn()
        book.undo()
        self.refused_alone(NothingToUndo, book.undo)
        self.same_as_new(book, ["ab"], 0)

    def test_one_by_one(self):
        book = Book(Table.read("a b"))
        book.put_in("rows", ["c", "d"])
        book.turn()
        book[(0, 0)] = "e"
        book.take_out("columns", 1)
        self.same_as_new(book, ["e", "b"], 4)
        for rows, length in ((["ec", "bd"], 3), (["ac", "bd"], 2), (["ab", "cd"], 1), (["ab"], 0)):
            book.undo()
            self.same_as_new(book, rows, length)

    def test_undo_is_no_change_itself(self):
        book = Book(Table.read("a b"))
        book[(0, 0)] = "c"
        book[(0, 0)] = "d"
        book.undo()
        book.undo()
        self.same_as_new(book, ["ab"], 0)

    def test_changes_after_undo(self):
        book = Book(Table.read("a b"))
        book[(0, 0)] = "c"
        book.undo()
        book[(0, 1)] = "d"
        self.same_as_new(book, ["ad"], 1)
        book.undo()
        self.same_as_new(book, ["ab"], 0)

    def test_a_change_counts_even_if_the_table_stays_equal(self):
        book = Book(Table.read("a"))
        book[(0, 0)] = "a"
        book.turn()
        self.assertEqual(len(book), 2)
        book.undo()
        self.assertEqual(len(book), 1)

    def test_what_raised_an_error_is_not_undone(self):
        book = Book(Table.read("a b"))
        book[(0, 0)] = "c"
        self.refused(BadName, "name", "D", set_cell, book, (0, 0), "D")
        self.refused(BadCount, "count", 1, book.put_in, "rows", ["a"])
        self.refused(BadCount, "count", 0, book.take_out, "rows", 0)
        self.refused(BadCell, "value", None, set_cell, book, None, "a")
        self.assertEqual(len(book), 1)
        book.undo()
        self.same_as_new(book, ["ab"], 0)


class TriedTest(BookCase):

    def test_all_kinds_of_changes(self):
        book = Book(Table.read("a a / b c"))
        book[(0, 1)] = "c"
        for changes, result in (
                ([], "a c / b c"), ([("turn",)], "a b / c c"), ([("cell", (1, 0), "c")], "a c / c c"),
                ([("put", "rows", ["c", "a"])], "a c / b c / c a"), ([("take", "columns", 0)], "c / c"),
                ([("put", "columns", ("c", "a")), ("take", "rows", 0), ("turn",)], "b / c / a"),
                ([("turn",), ("turn",), ("cell", (0, 0), "d")], "d c / b c")):
            for given in (changes, tuple(changes)):
                self.assertEqual(told(book.tried(given)), told(judge(Table.read(result))))
                self.same_as_new(book, ["ac", "bc"], 1)

    def test_the_error_of_the_first_that_raises_one(self):
        book = Book(Table.read("a b c / d e f"))
        book.turn()
        for changes, error, argument, value in (
                ([("cell", (0, 2), "a")], BadCell, "value", (0, 2)),
                ([("cell", None, "A")], BadCell, "value", None),
                ([("cell", (0, 0), "A"), ("cell", None, "a")], BadName, "name", "A"),
                ([("turn",), ("put", "rows", list("aga")), ("turn",)], BadCount, "count", 7),
                ([("put", "row", ["a", "b"])], BadSide, "word", "row"),
                ([("put", "rows", ["a"])], BadCount, "count", 1),
                ([("put", "rows", ["a", "B"])], BadName, "name", "B"),
                ([("take", "lines", 0)], BadSide, "word", "lines"),
                ([("take", "rows", True)], BadLine, "number", True),
                ([("take", "columns", 0), ("take", "columns", 0), ("turn",)], BadCount, "count", 0)):
            self.refused(error, argument, value, book.tried, changes)
            self.same_as_new(book, ["ad", "be", "cf"], 1)
        book.undo()
        self.same_as_new(book, ["abc", "def"], 0)

    def test_nothing_that_was_passed_is_changed(self):
        book = Book(Table.read("a b"))
        names = ["b", "c"]
        changes = [("put", "rows", names), ("turn",)]
        book.tried(changes)
        self.assertEqual([changes, names], [[("put", "rows", ["b", "c"]), ("turn",)], ["b", "c"]])

    def test_many_changes(self):
        book = Book(Table.read("a b / b a"))
        self.assertEqual(book.tried([("turn",)] * 999 + [("cell", (0, 0), "b")]).kind, "smooth")
        self.same_as_new(book, ["ab", "ba"], 0)


class SequencesTest(BookCase):

    def check_tried(self, book, model, chance):
        """Try some changes, and check that the verdict or the error is as it should be."""
        other = Model(Table(model.rows))
        changes = []
        for _ in range(chance.randrange(4)):
            changes.append(some_change(chance, other.rows))
            count = other.make(*changes[-1])
            if count is not None:
                self.refused(BadCount, "count", count, book.tried, changes)
                return
        self.assertEqual(told(book.tried(changes)), told(judge(Table(other.rows))))

    def test_after_any_sequence_of_calls(self):
        chance = random.Random(3)
        refused = 0
        for table in mixed_tables(25):
            book, model = Book(table), Model(table)
            for _ in range(60):
                if chance.random() < 0.3:
                    if model.earlier:
                        model.rows = model.earlier.pop()
                        book.undo()
                    else:
                        self.refused_alone(NothingToUndo, book.undo)
                else:
                    asked = some_change(chance, model.rows)
                    count = model.make(*asked)
                    if count is None:
                        change(book, *asked)
                    else:
                        self.refused(BadCount, "count", count, change, book, *asked)
                        refused += 1
                self.check_tried(book, model, chance)
                self.assertEqual([list(row) for row in book.table().lines], model.rows)
                self.assertEqual(len(book), len(model.earlier))
            self.same_as_new(book, model.rows, len(model.earlier))
        self.assertTrue(refused > 100)

    def test_two_books_of_one_table(self):
        table = Table.read("a b / c d")
        one, other = Book(table), Book(table)
        one[(0, 0)] = "e"
        one.turn()
        self.same_as_new(other, ["ab", "cd"], 0)
        self.assertRaises(ChooserError, other.undo)
        self.same_as_new(one, ["ec", "bd"], 2)


if __name__ == "__main__":
    unittest.main()
