"""What the tests of several modules share: wrong values, small tables, and all wishes for them."""

import itertools
import random
import unittest

from twochoosers.tables import Table
from twochoosers.wishes import Wishes

# Values of any kind that are no cell, no number of a line, no count from 0 on and no set of outcomes.
ANY_VALUES = [
    None, True, False, -1, -10 ** 6000, "", "a", "0", "rows", [], [0], [0, 0], ["a"], {}, {"a": 0},
    {0: [0]}, (0,), (0, 0, 0), (None,), (True,), (-1, -1), ("0", "0"), ("",), ("a", 0), (0, "a"),
    ([0], 0), ({}, {}), ((0, 0),), ((0,), (0,)), (["a"],), (("a",),), ([[[["a"]]]],), [[[[[0]]]]],
]


class ProgramCase(unittest.TestCase):

    def refused(self, error, argument, value, call, *given, **named):
        """Check that the call raises just this error, which keeps this very kind of value."""
        with self.assertRaises(error) as context:
            call(*given, **named)
        self.assertIs(type(context.exception), error)
        kept = getattr(context.exception, argument)
        self.assertEqual(kept, value)
        self.assertIs(type(kept), type(value))
        return kept

    def refused_alone(self, error, call, *given, **named):
        """Check that the call raises just this error, which keeps nothing."""
        with self.assertRaises(error) as context:
            call(*given, **named)
        self.assertIs(type(context.exception), error)
        self.assertEqual(vars(context.exception), {})


def tables_of(height, width, letters):
    """All tables of this size with these letters in the cells."""
    return [
        Table([names[at:at + width] for at in range(0, height * width, width)])
        for names in itertools.product(letters, repeat=height * width)
    ]


def tiny_tables():
    """All tables of up to two rows and columns with up to three outcomes."""
    return [
        table for height in (1, 2) for width in (1, 2) for table in tables_of(height, width, "abc")
    ]


def small_tables():
    """The tiny tables, those of 2 by 3 and 3 by 2 cells, and of 3 by 3 cells with two outcomes."""
    return [
        *tiny_tables(), *tables_of(2, 3, "abc"), *tables_of(3, 2, "abc"), *tables_of(3, 3, "ab"),
    ]


def mixed_tables(count):
    """Tables of all sizes up to 8 by 8 with up to six outcomes, the same ones in every run."""
    chance = random.Random(20)
    tables = []
    for _ in range(count):
        width = chance.randint(1, 8)
        letters = "abcdef"[:chance.randint(1, 6)]
        # Cells of few outcomes, often repeated, so that firm and smooth tables come up too.
        common = chance.choice(letters)
        rows = [
            [chance.choice(letters + common * 9 * chance.randint(0, 1)) for _ in range(width)]
            for _ in range(chance.randint(1, 8))
        ]
        tables.append(Table(rows))
    return tables


def all_wishes(outcomes, most):
    """All wishes that give each of these outcomes an integer from 0 to `most`."""
    return [
        Wishes(dict(zip(outcomes, amounts)))
        for amounts in itertools.product(range(most + 1), repeat=len(outcomes))
    ]


def some_wishes(outcomes, seed):
    """Wishes for these outcomes with amounts from -3 to 3, the same ones for a seed in every run."""
    chance = random.Random(seed)
    return Wishes({name: chance.randint(-3, 3) for name in outcomes})


def cells_in(table):
    """The list of all cells of a table in ascending order."""
    return list(itertools.product(range(len(table.lines)), range(len(table.lines[0]))))


def leads(table, row_wishes, column_wishes, cell, there):
    """Does an improvement lead from the one cell to the other?"""
    if cell == there:
        return False
    before = table.lines[cell[0]][cell[1]]
    after = table.lines[there[0]][there[1]]
    if cell[1] == there[1]:
        return row_wishes[after] > row_wishes[before]
    if cell[0] == there[0]:
        return column_wishes[after] > column_wishes[before]
    return False


def leading_on(table, row_wishes, column_wishes):
    """For each cell the list of the cells to which improvements lead from it."""
    cells = cells_in(table)
    return {
        cell: [there for there in cells if leads(table, row_wishes, column_wishes, cell, there)]
        for cell in cells
    }
