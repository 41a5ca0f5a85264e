"""Moves: to which cells a side wants to go on from a cell, as several parts of the program ask."""

from twochoosers.checks import check_outcomes


def wishes_fit(table, row_wishes, column_wishes):
    """Return True if both wishes have the outcomes of the table, and False otherwise."""
    return row_wishes.outcomes == table.outcomes and column_wishes.outcomes == table.outcomes


def check_wishes(table, row_wishes, column_wishes):
    """Raise UnlikeOutcomes for the first wishes that have not the outcomes of the table."""
    check_outcomes(table.outcomes, row_wishes.outcomes)
    check_outcomes(table.outcomes, column_wishes.outcomes)


def better_cells(table, row_wishes, column_wishes, cell):
    """Return the list of the cells to which improvements lead, or raise BadCell if this is no cell."""
    here = table[cell]
    row, column = cell
    in_column = [(at, column) for at in range(table.height)]
    in_row = [(row, at) for at in range(table.width)]
    by_rows = [there for there in in_column if row_wishes.prefers(table[there], here)]
    by_columns = [there for there in in_row if column_wishes.prefers(table[there], here)]
    return sorted(by_rows + by_columns)
