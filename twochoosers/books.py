"""Books: tables that can be changed, with the changes taken back one by one."""

from twochoosers.errors import BadCell, NothingToUndo
from twochoosers.tables import Table, is_cell
from twochoosers.verdicts import judge


class Book:
    """A table that can be changed, and the tables that it was before its changes."""

    def __init__(self, table):
        self._table = table
        self._before = []

    def __getitem__(self, at):
        return self._table[at]

    def __setitem__(self, at, name):
        self._change_to(with_outcome(self._table, at, name))

    # Without this, Python would iterate by asking for the cells 0, 1 and so on.
    def __iter__(self):
        raise TypeError("a book is not iterated over")

    def __contains__(self, x):
        return x in self._table.outcomes

    def __len__(self):
        return len(self._before)

    def table(self):
        """Return the table as it is now."""
        return self._table

    def verdict(self):
        """Return the verdict of the table as it is now."""
        return judge(self._table)

    def put_in(self, side, names):
        """Make these names the last line of a side."""
        self._change_to(self._table.with_line(side, names))

    def take_out(self, side, number):
        """Remove the line of a side with this number."""
        self._change_to(self._table.without_line(side, number))

    def turn(self):
        """Exchange the rows and the columns."""
        self._change_to(self._table.turned())

    def undo(self):
        """Take back the last change that has not been taken back."""
        if len(self._before) == 0:
            raise NothingToUndo()
        self._table = self._before.pop()

    def tried(self, changes):
        """Return the verdict that the book would have after all these changes, without making them."""
        trial = Book(self._table)
        for change in changes:
            make(trial, change)
        return trial.verdict()

    def _change_to(self, table):
        self._before.append(self._table)
        self._table = table


def with_outcome(table, cell, name):
    """Return the table in which this name stands in the cell."""
    if not is_cell(table, cell):
        raise BadCell(cell)
    row, column = cell
    lines = [list(line) for line in table.lines]
    lines[row][column] = name
    return Table(lines)


def make(book, change):
    """Make a change that is told as a tuple in the book."""
    word = change[0]
    if word == "cell":
        book[change[1]] = change[2]
    elif word == "put":
        book.put_in(change[1], change[2])
    elif word == "take":
        book.take_out(change[1], change[2])
    else:
        book.turn()
