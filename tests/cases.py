"""What the tests of several modules share: wrong values, small tables, wishes for them, and trees."""

import itertools
import random
import unittest

from twochoosers.tables import Table
from twochoosers.trees import Tree
from twochoosers.wishes import Wishes

SIDES = ("rows", "columns")
NOT_SIDES = ["", "row", "column", "Rows", "rows ", "columns\n", "a", "lines", "leaf"]
NOT_NAMES = ["", "A", "1a", "a b", "a\n", "abcdefg", "a/b", "/", " ", "a_", "a,", "(", "a)"]
# Values of any kind that are no set of some of the outcomes a, b and c.
NOT_SETS = [
    None, True, False, 0, 1, 10 ** 6000, "", "a", "ab", [], ["a"], ["a", "b"], {}, {"a": 1},
    ("b", "a"), ("a", "a"), ("d",), ("a", "d"), ("",), ("a", ""), ("A",), ("ab",), (None,), (0,),
    (True,), ("a", 1), (1, "a"), ("a", None), ("a", True), ((),), (("a",),), (["a"],), ("a", ["b"]),
    ({},), ("a", {"b": 1}), ("a", "b", "b"), ("a", "c", "b"), ((((("a",),),),),), ("a", "b", "c", "d"),
    [[[[["a"]]]]], ("a", "b", "c", "c"), ("rows",),
]
# Values of any kind that are no cell, no number of a line, no count from 0 on and no set of outcomes.
ANY_VALUES = [
    None, True, False, -1, -10 ** 6000, "", "a", "0", "rows", [], [0], [0, 0], ["a"], {}, {"a": 0},
    {0: [0]}, (0,), (0, 0, 0), (None,), (True,), (-1, -1), ("0", "0"), ("",), ("a", 0), (0, "a"),
    ([0], 0), ({}, {}), ((0, 0),), ((0,), (0,)), (["a"],), (("a",),), ([[[["a"]]]],), [[[[[0]]]]],
]


class ProgramCase(unittest.TestCase):

    def refused(self, error, argument, value, call, *given, **named):
        """Check that the call raises just this error, which keeps this very kind of value."""
        with self.assertRaises(error) as context:
            call(*given, **named)
        self.assertIs(type(context.exception), error)
        kept = getattr(context.exception, argument)
        self.assertEqual(kept, value)
        self.assertIs(type(kept), type(value))
        return kept

    def refused_alone(self, error, call, *given, **named):
        """Check that the call raises just this error, which keeps nothing."""
        with self.assertRaises(error) as context:
            call(*given, **named)
        self.assertIs(type(context.exception), error)
        self.assertEqual(vars(context.exception), {})


def tables_of(height, width, letters):
    """All tables of this size with these letters in the cells."""
    return [
        Table([names[at:at + width] for at in range(0, height * width, width)])
        for names in itertools.product(letters, repeat=height * width)
    ]


def tiny_tables():
    """All tables of up to two rows and columns with up to three outcomes."""
    return [
        table for height in (1, 2) for width in (1, 2) for table in tables_of(height, width, "abc")
    ]


def small_tables():
    """The tiny tables, those of 2 by 3 and 3 by 2 cells, and of 3 by 3 cells with two outcomes."""
    return [
        *tiny_tables(), *tables_of(2, 3, "abc"), *tables_of(3, 2, "abc"), *tables_of(3, 3, "ab"),
    ]


def mixed_tables(count):
    """Tables of all sizes up to 8 by 8 with up to six outcomes, the same ones in every run."""
    chance = random.Random(20)
    tables = []
    for _ in range(count):
        width = chance.randint(1, 8)
        letters = "abcdef"[:chance.randint(1, 6)]
        # Cells of few outcomes, often repeated, so that firm and smooth tables come up too.
        common = chance.choice(letters)
        rows = [
            [chance.choice(letters + common * 9 * chance.randint(0, 1)) for _ in range(width)]
            for _ in range(chance.randint(1, 8))
        ]
        tables.append(Table(rows))
    return tables


def all_wishes(outcomes, most):
    """All wishes that give each of these outcomes an integer from 0 to `most`."""
    return [
        Wishes(dict(zip(outcomes, amounts)))
        for amounts in itertools.product(range(most + 1), repeat=len(outcomes))
    ]


def some_wishes(outcomes, seed):
    """Wishes for these outcomes with amounts from -3 to 3, the same ones for a seed in every run."""
    chance = random.Random(seed)
    return Wishes({name: chance.randint(-3, 3) for name in outcomes})


def cells_in(table):
    """The list of all cells of a table in ascending order."""
    return list(itertools.product(range(len(table.lines)), range(len(table.lines[0]))))


def leads(table, row_wishes, column_wishes, cell, there):
    """Does an improvement lead from the one cell to the other?"""
    if cell == there:
        return False
    before = table.lines[cell[0]][cell[1]]
    after = table.lines[there[0]][there[1]]
    if cell[1] == there[1]:
        return row_wishes[after] > row_wishes[before]
    if cell[0] == there[0]:
        return column_wishes[after] > column_wishes[before]
    return False


def leading_on(table, row_wishes, column_wishes):
    """For each cell the list of the cells to which improvements lead from it."""
    cells = cells_in(table)
    return {
        cell: [there for there in cells if leads(table, row_wishes, column_wishes, cell, there)]
        for cell in cells
    }


def sets_of(outcomes):
    """All sets of these outcomes, in order."""
    return [
        names for length in range(len(outcomes) + 1) for names in itertools.combinations(outcomes, length)
    ]


def partitions(names):
    """All ways to part the names, each part and the list of the parts by their first names."""
    if not names:
        return [[]]
    first, rest = names[0], names[1:]
    ways = []
    for length in range(len(rest) + 1):
        for joined in itertools.combinations(rest, length):
            left = [name for name in rest if name not in joined]
            ways += [[[first, *joined], *way] for way in partitions(left)]
    return ways


def plain_trees(names, barred=None):
    """All trees with these leaves at which the barred side does not choose first.

    A plain tree is a name, or a tuple of a side and the plain trees of which it chooses one.
    """
    if len(names) == 1:
        return [names[0]]
    return [
        (side, *parts)
        for side in SIDES if side != barred
        for way in partitions(names) if len(way) > 1
        for parts in itertools.product(*[plain_trees(part, side) for part in way])
    ]


def all_plain_trees(letters):
    """All plain trees whose leaves are some of these letters."""
    return [plain for names in sets_of(tuple(letters)) if names for plain in plain_trees(list(names))]


def some_plain_trees(letters, step):
    """Every so manieth of the plain trees with just these letters as leaves."""
    return plain_trees(list(letters))[::step]


def made(plain):
    """The tree that a plain tree stands for."""
    if isinstance(plain, str):
        return Tree.leaf(plain)
    side, *parts = plain
    trees = [made(part) for part in parts]
    return Tree.of_rows(*trees) if side == "rows" else Tree.of_columns(*trees)


def plain_text(plain):
    """The text of a plain tree."""
    if isinstance(plain, str):
        return plain
    side, *parts = plain
    return side + "(" + ", ".join(plain_text(part) for part in parts) + ")"


def plain_least(plain, side):
    """The least forced sets of a side in a plain tree, in no order."""
    if isinstance(plain, str):
        return [frozenset([plain])]
    chooser, *parts = plain
    told = [plain_least(part, side) for part in parts]
    if chooser == side:
        return [names for sets in told for names in sets]
    return [frozenset().union(*taken) for taken in itertools.product(*told)]


def in_order(sets):
    """These sets as tuples, in order."""
    return sorted((tuple(sorted(names)) for names in sets), key=lambda names: (len(names), names))
