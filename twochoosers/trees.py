"""Trees: the sides choose by turns, until a leaf with an outcome is reached."""

from twochoosers.checks import check_count, check_set, check_side
from twochoosers.errors import BadName, BadText, ChooserError, DuplicateName
from twochoosers.forcing import all_sets, least_of, other_side
from twochoosers.naming import valid_name
from twochoosers.tables import Table, exchanged

# The words with which the text of a point begins, each with the side that chooses there.
OPENINGS = {"rows(": "rows", "columns(": "columns"}


class Tree:
    """A leaf with an outcome, or a point at which one side chooses one of two or more trees."""

    def __init__(self, kind, outcomes, parts):
        self._kind = kind
        self._outcomes = outcomes
        self._parts = parts
        self._depth = max([part.depth + 1 for part in parts], default=0)

    @classmethod
    def leaf(cls, name):
        """Return the leaf with this outcome."""
        if not valid_name(name):
            raise BadName(name)
        return cls("leaf", (name,), ())

    @classmethod
    def of_rows(cls, *trees):
        """Return the tree in which the side `rows` chooses one of these trees."""
        return chosen_by("rows", trees)

    @classmethod
    def of_columns(cls, *trees):
        """Return the tree in which the side `columns` chooses one of these trees."""
        return chosen_by("columns", trees)

    @classmethod
    def read(cls, text):
        """Return the tree with this text, as `str` gives it."""
        tree = tree_told(text)
        if tree is None or str(tree) != text:
            raise BadText(text)
        return tree

    @property
    def kind(self):
        """The word `leaf`, or the side that chooses first."""
        return self._kind

    @property
    def outcomes(self):
        """The tuple of the outcomes of all leaves in ascending order."""
        return self._outcomes

    @property
    def parts(self):
        """The tuple of the trees of which one is chosen first, by their least outcomes."""
        return self._parts

    @property
    def depth(self):
        """The greatest number of choices that lead to a leaf."""
        return self._depth

    def __eq__(self, other):
        return (
            isinstance(other, Tree) and self._kind == other._kind
            and self._outcomes == other._outcomes and self._parts == other._parts
        )

    def __str__(self):
        if self._kind == "leaf":
            return str(self._outcomes[0])
        parts = [str(part) for part in self._parts]
        return f"{self._kind}({', '.join(parts)})"

    def forces(self, side, wanted):
        """Return True if the side forces the set in the tree, and False otherwise."""
        check_side(side)
        check_set(self._outcomes, wanted)
        return is_forced(self, side, wanted)

    def least_sets(self, side):
        """Return the list of the sets that the side forces while it forces no smaller part of them."""
        check_side(side)
        return least_of([names for names in all_sets(self._outcomes) if is_forced(self, side, names)])

    def turned(self):
        """Return the tree in which the two sides are exchanged."""
        if self._kind == "leaf":
            return self
        parts = [part.turned() for part in self._parts]
        return chosen_by(other_side(self._kind), parts)

    def table(self):
        """Return the table in which each line is a plan of a side for all its choices in the tree."""
        return Table(plans(self))


def chosen_by(side, trees):
    """Return the tree in which the side chooses one of these trees."""
    names = sorted([name for tree in trees for name in tree.outcomes])
    for name, following in zip(names, names[1:]):
        if name == following:
            raise DuplicateName(name)
    # Without a tree there is no leaf either, and no name that could stand twice.
    check_count(len(names))
    if len(trees) == 1:
        return trees[0]
    parts = [part for tree in trees for part in (tree.parts if tree.kind == side else (tree,))]
    return Tree(side, tuple(names), tuple(sorted(parts, key=lambda part: part.outcomes[0])))


def tree_told(text):
    """Return the tree that a text tells in any spacing and order, or None if it tells none."""
    words = text.replace("(", "( ").replace(")", " ) ").replace(",", " ").split()
    try:
        return tree_of_words(words)
    except ChooserError:
        return None


def tree_of_words(words):
    """Return the tree that these words tell, or None if they break off or tell several."""
    # A list of the points that are not closed yet, since a text may be nested too deeply to recurse.
    begun = []
    parts = []
    for word in words:
        if word in OPENINGS:
            begun.append((OPENINGS[word], parts))
            parts = []
        elif word == ")" and begun:
            side, before = begun.pop()
            before.append(chosen_by(side, parts))
            parts = before
        else:
            # A bracket that closes nothing is refused here too, since it is no name.
            parts.append(Tree.leaf(word))
    return parts[0] if len(parts) == 1 and len(begun) == 0 else None


def is_forced(tree, side, wanted):
    """Return True if the side forces the set, which may hold other outcomes too, in the tree."""
    if tree.kind == "leaf":
        return tree.outcomes[0] in wanted
    told = [is_forced(part, side, wanted) for part in tree.parts]
    return any(told) if tree.kind == side else all(told)


def plans(tree):
    """Return the rows of the table for the tree, also if there are too many for a table."""
    if tree.kind == "leaf":
        return (tree.outcomes,)
    if tree.kind == "rows":
        return plans_of_rows([plans(part) for part in tree.parts])
    return exchanged(plans_of_rows([exchanged(plans(part)) for part in tree.parts]))


def plans_of_rows(parts):
    """Return the rows for a point of the side `rows`, whose parts have these lists of rows."""
    takings = [()]
    for rows in parts:
        takings = [taken + (column,) for taken in takings for column in range(len(rows[0]))]
    return [[row[taken[at]] for taken in takings] for at, part in enumerate(parts) for row in part]
