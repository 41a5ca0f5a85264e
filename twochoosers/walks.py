"""Sequences of improvements, and tables in which all of them end."""

from twochoosers.checks import is_index, is_integer
from twochoosers.errors import BadCount, IsSmooth
from twochoosers.moves import better_cells, check_wishes, wishes_fit
from twochoosers.naming import as_set
from twochoosers.tables import cells_of, is_cell
from twochoosers.wishes import Wishes


class Round:
    """Wishes of both sides, and cells around which improvements lead with them."""

    def __init__(self, row_wishes, column_wishes, cells):
        self._row_wishes = row_wishes
        self._column_wishes = column_wishes
        self._cells = tuple(cells)

    @property
    def row_wishes(self):
        """The wishes of the side `rows`."""
        return self._row_wishes

    @property
    def column_wishes(self):
        """The wishes of the side `columns`."""
        return self._column_wishes

    @property
    def cells(self):
        """The tuple of the cells, each of which leads to the next one, and the last to the first."""
        return self._cells


def improvements(table, row_wishes, column_wishes, cell):
    """Yield the cells to which improvements lead from the cell, in ascending order."""
    check_wishes(table, row_wishes, column_wishes)
    for there in better_cells(table, row_wishes, column_wishes, cell):
        yield there


def walk(table, row_wishes, column_wishes, cell, most):
    """Return the cells on the way from a cell along first improvements, at most so many of these."""
    check_wishes(table, row_wishes, column_wishes)
    onward = better_cells(table, row_wishes, column_wishes, cell)
    if not is_integer(most) or most < 0:
        raise BadCount(most)
    cells = [cell]
    while onward and len(cells) <= most:
        cells.append(onward[0])
        onward = better_cells(table, row_wishes, column_wishes, onward[0])
    return cells


def is_path(table, row_wishes, column_wishes, cells):
    """Return True if an improvement leads from each of these cells but the last to the next one."""
    check_wishes(table, row_wishes, column_wishes)
    if not isinstance(cells, (list, tuple)) or len(cells) == 0:
        return False
    if not all([is_cell(table, cell) for cell in cells]):
        return False
    return all([
        there in better_cells(table, row_wishes, column_wishes, cell)
        for cell, there in zip(cells, cells[1:])
    ])


def longest(table, row_wishes, column_wishes):
    """Return the greatest number of improvements one behind the other, or None if they never end."""
    check_wishes(table, row_wishes, column_wishes)
    onward = {cell: better_cells(table, row_wishes, column_wishes, cell) for cell in cells_of(table)}
    starts = {cell: True for cell in onward}
    count = 0
    while starts:
        # From the starts lead `count` improvements, from the farther ones one more.
        farther = {cell: True for cell in starts if any([there in starts for there in onward[cell]])}
        if len(farther) == len(starts):
            return None
        starts = farther
        count += 1
    return count - 1


def pairs_below(count):
    """Return the list of all pairs of numbers from 0 on below the count, the smaller number first."""
    return [(one, other) for one in range(count) for other in range(one + 1, count)]


def is_pair_below(count, value):
    """Return True if the value, which may be any value, is such a pair of numbers."""
    if not isinstance(value, tuple) or len(value) != 2:
        return False
    return is_index(value[0], count) and is_index(value[1], count) and value[0] < value[1]


def is_rough_part(table, value):
    """Return True if the value, which may be any value, is a part for which smoothness fails."""
    if not isinstance(value, tuple) or len(value) != 2:
        return False
    rows, columns = value
    if not is_pair_below(table.height, rows) or not is_pair_below(table.width, columns):
        return False
    left, right = columns
    upper, lower = [table.lines[row] for row in rows]
    rows_differ = upper[left] != upper[right] and lower[left] != lower[right]
    return rows_differ and upper[left] != lower[left] and upper[right] != lower[right]


def rough_part(table):
    """Return the first two rows and two columns for which smoothness fails, or None."""
    for rows in pairs_below(table.height):
        for columns in pairs_below(table.width):
            if is_rough_part(table, (rows, columns)):
                return (rows, columns)
    return None


def is_smooth(table):
    """Return True if the table is smooth, and False otherwise."""
    return rough_part(table) is None


def check_round(table, told):
    """Return True if improvements lead around these cells of the table, and False otherwise."""
    if not wishes_fit(table, told.row_wishes, told.column_wishes):
        return False
    # A path that comes back to its first cell; without cells it is none.
    around = told.cells + told.cells[:1]
    return is_path(table, told.row_wishes, told.column_wishes, around)


def round_case(table):
    """Return wishes of 0 and 1 with a round of four cells, or raise IsSmooth if there are none."""
    part = rough_part(table)
    if part is None:
        raise IsSmooth()
    (above, below), (left, right) = part
    cells = ((above, left), (above, right), (below, right), (below, left))
    # Corners side by side differ, so no outcome is wanted by both sides.
    row_wishes = Wishes.only(table.outcomes, as_set([table[cells[0]], table[cells[2]]]))
    column_wishes = Wishes.only(table.outcomes, as_set([table[cells[1]], table[cells[3]]]))
    return Round(row_wishes, column_wishes, cells)
