"""Shapes: which tables give the sides the same power as a tree."""

from twochoosers.errors import NotFirm
from twochoosers.forcing import common, firm_gap, least_sets
from twochoosers.naming import as_set
from twochoosers.trees import Tree


def tree_of(table):
    """Return the tree with the least forced sets of the table, or None if there is none."""
    gap = firm_gap(table)
    if gap is not None:
        raise NotFirm(gap)
    if double_meet(table) is not None:
        return None
    row_sets = least_sets(table, "rows")
    leaves = as_set([name for names in row_sets for name in names])
    return grown(leaves, row_sets, least_sets(table, "columns"))


def grown(leaves, row_sets, column_sets):
    """Return the tree with these leaves and least sets, which never meet in two outcomes."""
    if len(leaves) == 1:
        return Tree.leaf(leaves[0])
    # Each least set of the side that chooses first lies in one part. Those of the other side have
    # outcomes of all parts, so only the sets of the former tell several parts.
    parts = parts_of(leaves, row_sets)
    if len(parts) > 1:
        trees = [grown(part, row_sets, column_sets) for part in parts]
        return Tree.of_rows(*trees)
    trees = [grown(part, row_sets, column_sets) for part in parts_of(leaves, column_sets)]
    return Tree.of_columns(*trees)


def parts_of(leaves, sets):
    """Return the smallest parts of the leaves such that two leaves in one set are in one part."""
    parts = [[name] for name in leaves]
    for names in sets:
        touched = [part for part in parts if len(common(part, names)) > 0]
        # A set may have its outcomes among other leaves than these.
        if touched:
            apart = [part for part in parts if part not in touched]
            parts = apart + [[name for part in touched for name in part]]
    return parts


def double_meet(table):
    """Return least forced sets of both sides with two common outcomes, or None if there are none."""
    for row_set in least_sets(table, "rows"):
        for column_set in least_sets(table, "columns"):
            if meet_twice(row_set, column_set):
                return (row_set, column_set)
    return None


def meet_twice(one, other):
    """Return True if the two sets have two outcomes or more in common, and False otherwise."""
    return len(common(one, other)) >= 2


def has_tree_sets(table, tree):
    """Return True if the table has the least forced sets of the tree, for both sides."""
    return all([least_sets(table, side) == tree.least_sets(side) for side in ("rows", "columns")])


def check_double_meet(table, value):
    """Return True if the value, which may be any value, is such a tuple as `double_meet` returns."""
    if not isinstance(value, tuple) or len(value) != 2:
        return False
    row_set, column_set = value
    if row_set not in least_sets(table, "rows") or column_set not in least_sets(table, "columns"):
        return False
    return meet_twice(row_set, column_set)
