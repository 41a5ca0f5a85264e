"""Worths: what the sides can bring about in a table if one wishes the opposite of the other."""

from twochoosers.checks import check_outcomes
from twochoosers.errors import IsFirm
from twochoosers.forcing import all_sets, firm_gap
from twochoosers.wishes import Wishes


def row_floors(table, wishes):
    """Return the list of the least integers in the rows."""
    return [min([wishes[name] for name in line]) for line in table.lines_of("rows")]


def column_ceilings(table, wishes):
    """Return the list of the greatest integers in the columns."""
    return [max([wishes[name] for name in line]) for line in table.lines_of("columns")]


def worth(table, wishes):
    """Return what `rows` is sure of, and what `columns` keeps it down to, as a tuple."""
    check_outcomes(table.outcomes, wishes.outcomes)
    return (max(row_floors(table, wishes)), min(column_ceilings(table, wishes)))


def sure_line(table, wishes):
    """Return the number of the first row with which `rows` is sure of its part of the worth."""
    sure, _ = worth(table, wishes)
    return row_floors(table, wishes).index(sure)


def keeping_line(table, wishes):
    """Return the number of the first column with which `columns` keeps `rows` down to its part."""
    _, kept = worth(table, wishes)
    return column_ceilings(table, wishes).index(kept)


def gap_wishes(table):
    """Return wishes of 0 and 1 for which the two parts of the worth differ, or raise IsFirm."""
    gap = firm_gap(table)
    if gap is None:
        raise IsFirm()
    return Wishes.only(table.outcomes, gap)


def alike(one, other):
    """Return True if each side forces the same sets in both tables, and False otherwise."""
    return parting(one, other) is None


def parting(one, other):
    """Return wishes of 0 and 1 for which the tables are worth different things, or None."""
    check_outcomes(one.outcomes, other.outcomes)
    # With 1 for a set and 0 for the rest, `rows` is sure of 1 exactly if it forces the set, and
    # `columns` keeps it down to 0 exactly if it forces the rest.
    for wanted in all_sets(one.outcomes):
        wishes = Wishes.only(one.outcomes, wanted)
        if worth(one, wishes) != worth(other, wishes):
            return wishes
    return None
