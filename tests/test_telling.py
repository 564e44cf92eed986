"""[3.10], [3.11]: the tree that tells all rows apart."""

import itertools

from spreadhues.errors import BadCount, BadShown, TooMany
from spreadhues.rowsone import least_equal_row
from spreadhues.telling import telling_tree, told_row
from tests.helpers import NO_NUMBERS, NO_SEQUENCES, Case, all_rows, naive_run

SMALL = [(2, 1, 0), (2, 3, 1), (2, 4, 0), (3, 1, 2), (3, 2, 1), (3, 3, 0), (4, 3, 2)]


def struck_rows(colours, most, first):
    """All struck rows that do not begin with the first colour, by length, then ascending."""
    rows = [row for row in all_rows(colours, most) if all(a != b for a, b in zip((first, *row), row))]
    return sorted(rows, key=lambda row: (len(row), row))


def behind(tree, row):
    return naive_run(tree.colours, tree.ties, tree.marks, [(0, colour) for colour in row])[-1][2]


class Tree(Case):
    def test_a_tree_told_cell_by_cell(self):
        tree = telling_tree(3, 3, 1)
        self.same(tree.colours, (1, 0, 2, 1, 2, 0, 1))
        self.same(tree.ties, ((0, 1), (0, 2), (1, 3), (1, 4), (2, 5), (2, 6)))
        self.same(tree.marks, (0,))

    def test_one_pour_needs_one_cell(self):
        tree = telling_tree(10, 1, 9)
        self.same((tree.colours, tree.ties, tree.marks), ((9,), (), (0,)))

    def test_cells_stand_for_the_rows(self):
        for colours, pours, first in SMALL:
            tree = telling_tree(colours, pours, first)
            rows = struck_rows(colours, pours - 1, first)
            self.same(tree.colours, tuple((first, *row)[-1] for row in rows))
            self.same(tree.ties, tuple(sorted((rows.index(row[:-1]), rows.index(row)) for row in rows if row)))
            self.same(tree.marks, (0,))

    def test_counts(self):
        for action in (telling_tree, lambda *given: told_row(*given, None)):
            for colours in (1, 11, *NO_NUMBERS):
                self.fails(BadCount, ("colours",), action, colours, 0, -1)
            for pours in (0, 13, *NO_NUMBERS):
                self.fails(BadCount, ("pours",), action, 3, pours, 3)
            for first in (-1, 3, *NO_NUMBERS):
                self.fails(BadCount, ("first",), action, 3, 12, first)

    def test_700_cells(self):
        self.assertEqual(len(telling_tree(9, 4, 8)), 585)
        self.assertEqual(len(telling_tree(3, 9, 0)), 511)
        self.assertEqual(len(telling_tree(2, 12, 0)), 12)
        for given in ((10, 4, 0), (6, 5, 0), (3, 10, 0), (10, 12, 9)):
            self.fails(TooMany, (700,), telling_tree, *given)
            self.fails(TooMany, (700,), told_row, *given, ())


class Told(Case):
    def test_all_rows_are_told_apart(self):
        for colours, pours, first in SMALL:
            tree = telling_tree(colours, pours, first)
            told = {}
            for row in all_rows(colours, min(pours + 2, 5)):
                least = least_equal_row(row, first)
                if len(least) <= pours:
                    shown = behind(tree, row)
                    self.gives(least, told_row, colours, pours, first, shown)
                    told.setdefault(shown, least)
                    self.assertEqual(told[shown], least)

    def test_all_colours_of_small_trees(self):
        for colours, pours, first in ((2, 1, 0), (2, 3, 1), (3, 2, 1), (2, 4, 0)):
            tree = telling_tree(colours, pours, first)
            told = {behind(tree, row): row for row in struck_rows(colours, pours, first)}
            for shown in itertools.product(range(colours + 1), repeat=len(tree)):
                if shown in told:
                    self.gives(told[shown], told_row, colours, pours, first, shown)
                else:
                    self.fails(BadShown, (shown,), told_row, colours, pours, first, shown)

    def test_the_words_of_the_point(self):
        # cell 0 shows the end colour, and the longest row of a cell that changed to it stands ahead of it
        tree = telling_tree(3, 3, 0)
        self.gives((), told_row, 3, 3, 0, tree.colours)
        self.gives((2,), told_row, 3, 3, 0, (2,) + tree.colours[1:])
        self.gives((1, 2, 0), told_row, 3, 3, 0, behind(tree, (1, 2, 0)))

    def test_foreign_colours(self):
        # this is how the row 5 leaves the tree, but 5 is not below 3
        tree = telling_tree(3, 2, 0)
        self.fails(BadShown, ((5, 1, 2),), told_row, 3, 2, 0, (5, 1, 2))
        self.fails(BadShown, (behind(tree, (1, 5)),), told_row, 3, 2, 0, behind(tree, (1, 5)))

    def test_wrong_things(self):
        for thing in (*NO_SEQUENCES, (), (0, 1), (0, 1, 2, 0), (0, 1, 100), (0, 1, -1)):
            self.fails(BadShown, (thing,), told_row, 3, 2, 0, thing)
        for thing in NO_NUMBERS:
            self.fails(BadShown, ((0, 1, thing),), told_row, 3, 2, 0, (0, 1, thing))
            self.fails(BadShown, ((thing, 1, 2),), told_row, 3, 2, 1, (thing, 1, 2))

    def test_great_trees(self):
        for colours, pours, first, row in ((9, 4, 8, (0, 8, 3, 8)), (3, 9, 0, (1, 2, 0) * 3), (2, 12, 0, (1, 0) * 6)):
            tree = telling_tree(colours, pours, first)
            self.gives(row, told_row, colours, pours, first, behind(tree, row))
