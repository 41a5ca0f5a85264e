"""Stable cells: those that neither side wants to leave alone."""

from twochoosers.errors import IsFirm
from twochoosers.forcing import firm_gap, others
from twochoosers.moves import better_cells, check_wishes, wishes_fit
from twochoosers.tables import cells_of
from twochoosers.wishes import Wishes


class Unrest:
    """Wishes of both sides without a stable cell."""

    def __init__(self, row_wishes, column_wishes):
        self._row_wishes = row_wishes
        self._column_wishes = column_wishes

    @property
    def row_wishes(self):
        """The wishes of the side `rows`."""
        return self._row_wishes

    @property
    def column_wishes(self):
        """The wishes of the side `columns`."""
        return self._column_wishes


def is_stable(table, row_wishes, column_wishes, cell):
    """Return True if no improvement leads from the cell, and False otherwise."""
    check_wishes(table, row_wishes, column_wishes)
    return len(better_cells(table, row_wishes, column_wishes, cell)) == 0


def stable_cells(table, row_wishes, column_wishes):
    """Return the list of all stable cells in ascending order."""
    check_wishes(table, row_wishes, column_wishes)
    return [
        cell for cell in cells_of(table)
        if len(better_cells(table, row_wishes, column_wishes, cell)) == 0
    ]


def first_stable(table, row_wishes, column_wishes):
    """Return the first stable cell, or None if there is none."""
    found = stable_cells(table, row_wishes, column_wishes)
    return found[0] if found else None


def check_unrest(table, told):
    """Return True if these are wishes for the table without a stable cell, and False otherwise."""
    if not wishes_fit(table, told.row_wishes, told.column_wishes):
        return False
    return first_stable(table, told.row_wishes, told.column_wishes) is None


def unrest(table):
    """Return wishes of 0 and 1 without a stable cell, or raise IsFirm if there are none."""
    gap = firm_gap(table)
    if gap is None:
        raise IsFirm()
    # Every row has an outcome outside the gap, and every column one in it. So from a cell in the
    # gap the side `columns` can leave it, and from any other cell the side `rows` can enter it.
    rest = others(table.outcomes, gap)
    return Unrest(Wishes.only(table.outcomes, gap), Wishes.only(table.outcomes, rest))
