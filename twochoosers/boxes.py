"""Boxes: which tables are those of trees, but for repeated lines and the order of the lines."""

from twochoosers.errors import BadCount
from twochoosers.forcing import is_firm
from twochoosers.naming import as_set
from twochoosers.shapes import tree_of
from twochoosers.tables import cells_of


def box_gap(table):
    """Return the first two cells that keep the table from being boxed, or None."""
    cells = cells_of(table)
    for one in cells:
        for other in cells:
            if table[one] == table[other] and table[(one[0], other[1])] != table[one]:
                return (one, other)
    return None


def is_boxed(table):
    """Return True if the cells with the same outcome always form a box, and False otherwise."""
    return box_gap(table) is None


def matching(table, tree):
    """Return where the lines of the slim table stand in the table of the tree, or None."""
    try:
        goal = tree.table()
    except BadCount:
        return None
    slim = table.slim()
    rows = places(slim.lines_of("rows"), goal.lines_of("rows"))
    columns = places(slim.lines_of("columns"), goal.lines_of("columns"))
    # In the table of a tree a row and a column have just one outcome in common. So where their
    # outcomes agree, the cells do, too.
    return None if rows is None or columns is None else (rows, columns)


def places(lines, goals):
    """Return for each line the number of the goal with the same outcomes, or None if they do not fit."""
    # The lines of the table of a tree are the least forced sets of a side, so no two of them have
    # the same outcomes, and no line can stand anywhere else.
    known = [as_set(goal) for goal in goals]
    sets = [as_set(line) for line in lines]
    if sorted(sets) != sorted(known):
        return None
    return tuple([known.index(names) for names in sets])


def tree_form(table):
    """Return the tree whose table is this one but for repeats and order, or None if there is none."""
    if not is_firm(table):
        return None
    tree = tree_of(table)
    # A tree whose table matches has the same least forced sets as this one, and so is this one.
    if tree is None or matching(table, tree) is None:
        return None
    return tree
