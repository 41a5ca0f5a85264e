"""Tables: where a row and a column meet, an outcome stands in the cell."""

from twochoosers.checks import check_count, check_side, is_index
from twochoosers.errors import BadCell, BadCount, BadLine, BadName, BadText
from twochoosers.naming import as_set, valid_name

MOST_LINES = 8


class Table:
    """A table of 1 to 8 rows and 1 to 8 columns, with 1 to 6 different outcomes in its cells."""

    def __init__(self, lines):
        check_shape(lines)
        names = [name for line in lines for name in line]
        for name in names:
            if not valid_name(name):
                raise BadName(name)
        outcomes = as_set(names)
        check_count(len(outcomes))
        self._outcomes = outcomes
        self._rows = tuple([tuple(line) for line in lines])
        self._columns = exchanged(self._rows)

    @classmethod
    def read(cls, text):
        """Return the table with this text, as `str` gives it."""
        lines = [line.split(" ") for line in text.split(" / ")]
        if not all([is_word(word) for line in lines for word in line]):
            raise BadText(text)
        return cls(lines)

    @property
    def lines(self):
        """The tuple of the rows, each a tuple of names."""
        return self._rows

    @property
    def outcomes(self):
        """The tuple of the outcomes in ascending order."""
        return self._outcomes

    @property
    def height(self):
        """The number of the rows."""
        return len(self._rows)

    @property
    def width(self):
        """The number of the columns."""
        return len(self._columns)

    def __getitem__(self, at):
        if not is_cell(self, at):
            raise BadCell(at)
        row, column = at
        return self._rows[row][column]

    # Without this, Python would iterate by asking for the cells 0, 1 and so on.
    def __iter__(self):
        raise TypeError("a table is not iterated over")

    def __eq__(self, other):
        return isinstance(other, Table) and self._rows == other._rows

    def __str__(self):
        return " / ".join([" ".join(row) for row in self._rows])

    def lines_of(self, side):
        """Return the tuple of all lines of a side."""
        check_side(side)
        return self._rows if side == "rows" else self._columns

    def line(self, side, number):
        """Return the line of a side with this number, from the left or from the top."""
        lines = self.lines_of(side)
        if not is_index(number, len(lines)):
            raise BadLine(number)
        return lines[number]

    def turned(self):
        """Return the table in which the rows and the columns are exchanged."""
        return Table(self._columns)

    def with_line(self, side, names):
        """Return the table with one more line of a side, behind all others."""
        lines = self.lines_of(side)
        if len(names) != len(lines[0]):
            raise BadCount(len(names))
        return table_of(side, lines + (names,))

    def without_line(self, side, number):
        """Return the table without the line of a side with this number."""
        self.line(side, number)
        lines = self.lines_of(side)
        if len(lines) == 1:
            raise BadCount(0)
        return table_of(side, lines[:number] + lines[number + 1:])

    def slim(self):
        """Return the table without rows that repeat one above, then without such columns."""
        return Table(slim_lines(self._rows))


def check_shape(lines):
    """Raise BadCount if these rows have not the number or the lengths that rows of a table have."""
    if not 1 <= len(lines) <= MOST_LINES:
        raise BadCount(len(lines))
    width = len(lines[0])
    if not 1 <= width <= MOST_LINES:
        raise BadCount(width)
    for line in lines:
        if len(line) != width:
            raise BadCount(len(line))


def is_word(text):
    """Return True if a text without spaces can be a word in the text of a table."""
    return text != "" and "/" not in text and "\n" not in text


def is_cell(table, value):
    """Return True if the value, which may be any value, is a cell of the table."""
    if not isinstance(value, tuple) or len(value) != 2:
        return False
    return is_index(value[0], table.height) and is_index(value[1], table.width)


def cells_of(table):
    """Return the list of all cells of the table in ascending order."""
    return [(row, column) for row in range(table.height) for column in range(table.width)]


def exchanged(lines):
    """Return the tuple of the columns where these are the rows, or of the rows of these columns."""
    return tuple(zip(*lines))


def table_of(side, lines):
    """Return the table in which this side has these lines."""
    return Table(lines if side == "rows" else exchanged(lines))


def without_repeats(lines):
    """Return the list of the lines without those that equal an earlier one."""
    return [line for at, line in enumerate(lines) if line not in lines[:at]]


def slim_lines(rows):
    """Return the tuple of the rows without those that repeat one above, then without such columns."""
    return exchanged(without_repeats(exchanged(without_repeats(rows))))
