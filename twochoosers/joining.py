"""Joining: tables in which an outcome is replaced by one more choice in another table."""

from twochoosers.checks import check_set, check_side
from twochoosers.errors import DuplicateName, UnknownName
from twochoosers.forcing import common, forces, others
from twochoosers.naming import as_set
from twochoosers.tables import Table, slim_lines


def put(table, name, other):
    """Return the table in which the sides choose once more in the other one where they come to a name."""
    check_put(table, name, other)
    return Table(slim_lines([
        joined_row(upper, name, lower) for upper in table.lines for lower in other.lines
    ]))


def joined_row(upper, name, lower):
    """Return the row for a row of a table and a row of the one that is put in for the name."""
    return [inner if outer == name else outer for outer in upper for inner in lower]


def check_put(table, name, other):
    """Raise UnknownName or DuplicateName if the other table cannot stand for the name."""
    if name not in table.outcomes:
        raise UnknownName(name)
    doubled = common(other.outcomes, others(table.outcomes, (name,)))
    if doubled:
        raise DuplicateName(doubled[0])


def put_forces(table, name, other, side, wanted):
    """Return True if the side forces the set in the table that `put` describes, of whatever size."""
    check_put(table, name, other)
    check_side(side)
    kept = others(table.outcomes, (name,))
    check_set(kept + other.outcomes, wanted)
    goal = common(kept, wanted)
    if forces(other, side, common(other.outcomes, wanted)):
        goal = as_set(goal + (name,))
    return forces(table, side, goal)
