"""Forced sets: into which sets of outcomes a side can bring the choice, whatever the other does."""

from twochoosers.checks import check_set, check_side, is_set_of
from twochoosers.naming import as_set, in_order


def all_sets(outcomes):
    """Return the list of all sets of these outcomes, the shorter ones first."""
    sets = [()]
    for name in outcomes:
        sets = sets + [names + (name,) for names in sets]
    return in_order(sets)


def is_set(outcomes, value):
    """Return True if the value, which may be any value, is a set of these outcomes."""
    return is_set_of(outcomes, value)


def others(outcomes, wanted):
    """Return the set of the outcomes that are not in the set."""
    return tuple([name for name in outcomes if name not in wanted])


def common(one, other):
    """Return the set of the outcomes that are in both sets."""
    return tuple([name for name in one if name in other])


def lies_in(names, wanted):
    """Return True if all the names are in the set, and False otherwise."""
    return all([name in wanted for name in names])


def least_of(sets):
    """Return the list of those of these sets, given in their order, in which none of the others lies."""
    least = []
    # What lies in a set comes before it, so it is known by then whether there is such a set.
    for wanted in sets:
        if not any([lies_in(names, wanted) for names in least]):
            least.append(wanted)
    return least


def other_side(side):
    """Return the word for the side that this one plays with."""
    return "columns" if side == "rows" else "rows"


def line_set(table, side, number):
    """Return the set of the outcomes of a line."""
    return as_set(table.line(side, number))


def forcing_line(table, side, wanted):
    """Return the number of the first line of the side that lies in the set, or None."""
    check_side(side)
    check_set(table.outcomes, wanted)
    for number, line in enumerate(table.lines_of(side)):
        if lies_in(line, wanted):
            return number
    return None


def forces(table, side, wanted):
    """Return True if the side forces the set, and False otherwise."""
    return forcing_line(table, side, wanted) is not None


def stops(table, side, wanted):
    """Return True if every line of the other side has an outcome in the set."""
    check_side(side)
    check_set(table.outcomes, wanted)
    return not forces(table, other_side(side), others(table.outcomes, wanted))


def least_sets(table, side):
    """Return the list of the sets that the side forces while it forces no other set inside."""
    check_side(side)
    return least_of([names for names in all_sets(table.outcomes) if forces(table, side, names)])


def is_gap(table, value):
    """Return True if the value, which may be any value, is a set that keeps the table from being firm."""
    if not is_set_of(table.outcomes, value):
        return False
    rest = others(table.outcomes, value)
    return not forces(table, "rows", value) and not forces(table, "columns", rest)


def firm_gap(table):
    """Return the first set that keeps the table from being firm, or None if there is none."""
    for wanted in all_sets(table.outcomes):
        if is_gap(table, wanted):
            return wanted
    return None


def is_firm(table):
    """Return True if the table is firm, and False otherwise."""
    return firm_gap(table) is None
