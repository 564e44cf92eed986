"""[5.6], [5.7]: the size of drawings, and drawings of bundles on squares."""

import itertools
import random

from spreadhues.bars import bars_size, drawn_bars
from spreadhues.bundles import Bundle, bundle_moments, table_of_bundle
from spreadhues.errors import BadColour, NoRoom, WallUsed
from spreadhues.pictures import Picture
from spreadhues.squares import Squares
from spreadhues.tables import table_of
from tests.helpers import NO_NUMBERS, Case, naive_islands, naive_patch, naive_run, neighbours
from tests.test_bundles import chance_bundle, small_bundles
from tests.test_tables import many_rows

PAIRS = list(itertools.combinations(range(4), 2))


def naive_picture(squares):
    columns = len(squares.levels[0])
    colours = [colour for level in squares.levels for colour in level]
    ties = [(cell, cell + 1) for cell in range(len(colours)) if cell % columns < columns - 1]
    ties += [(cell, cell + columns) for cell in range(len(colours) - columns)]
    return Picture(colours, ties, [level * columns + column for level, column in squares.places])


def least_lots(picture, cells):
    """How many patches of marks touch the cells."""
    near = set().union(*(neighbours(picture, cell) for cell in cells))
    patches = {frozenset(naive_patch(picture.colours, picture.ties, cell)) for cell in picture.marks}
    return sum(bool(patch & near) for patch in patches)


def two_lots(inner, rows):
    """So many unlike rows of so many inner colours between two marks."""
    heads = [row[1:-1] for row in many_rows(rows)]
    fill = [20 + k % 2 for k in range(inner - 3)]
    return Bundle((90, 91), [(0, 1, (90, *head, *fill, 91)) for head in heads])


class Drawings(Case):
    def is_drawn(self, bundle, wall, scripts=()):
        squares = drawn_bars(bundle, wall)
        self.assertIs(type(squares), Squares)
        levels, columns = bars_size(bundle)
        self.assertLessEqual(len(squares.levels), levels)
        self.assertLessEqual(len(squares.levels[0]), columns)
        picture = naive_picture(squares)
        self.same(tuple(picture.colours[cell] for cell in picture.marks), bundle.firsts)
        for island in naive_islands(picture, (wall,)):
            self.assertLessEqual(least_lots(picture, island), 2)
        self.assertEqual(table_of(picture, (wall,)), table_of_bundle(bundle))
        for script in scripts:
            moments = naive_run(picture.colours, picture.ties, picture.marks, script)
            self.same(tuple(moment[:2] for moment in moments), bundle_moments(bundle, script))

    def test_small_drawings(self):
        for bundle in (
            Bundle((5,), ()), Bundle((5, 5), [(0, 1, (5,))]), Bundle((5, 6), ()), Bundle((5, 6), [(0, 1, (5, 6))]),
            Bundle((5, 5), [(0, 1, (5, 1, 5))]), Bundle((5, 5, 5, 5), [(0, 3, (5,)), (1, 2, (5,))]),
            Bundle((5, 6, 7, 8), ()),
        ):
            self.is_drawn(bundle, 0)
            self.is_drawn(bundle, 99)

    def test_each_set_of_couples_of_four_lots(self):
        """Ways between any lots, with any number of colours, in any order of the marks."""
        chance = random.Random(56)
        for firsts in ((5, 6, 7, 8), (5, 5, 5, 5)):
            for many in range(7):
                for chosen in itertools.combinations(PAIRS, many):
                    ways = []
                    for one, other in chosen:
                        inner = [[], [1], [1, 2], [2, 1]][chance.randrange(4)] or [3]
                        if firsts[one] != firsts[other] and chance.random() < 0.3:
                            inner = []
                        ways.append((one, other, (firsts[one], *inner, firsts[other])))
                    script = [(chance.randrange(4), chance.choice([1, 2, 3, 5, 6])) for _ in range(12)]
                    self.is_drawn(Bundle(firsts, ways), 90, [script])

    def test_several_ways_between_all_lots(self):
        bundle = Bundle((5,) * 4, [(*pair, (5, colour, 5)) for pair in PAIRS for colour in (1, 2)])
        self.is_drawn(bundle, 90, [[(k % 4, k % 5) for k in range(12)]])

    def test_small_bundles(self):
        for firsts, most, ways in (((0, 0), 4, 2), ((0, 1), 4, 2), ((0, 1, 0), 3, 2), ((0, 0, 0), 3, 3)):
            for bundle in list(small_bundles(firsts, most, ways))[::7]:
                self.is_drawn(bundle, 90, [[(len(firsts) - 1, 1), (0, 2), (0, 1), (1, 2), (1, 0), (0, 0)]])

    def test_chance_bundles(self):
        chance = random.Random(57)
        for _ in range(200):
            bundle = chance_bundle(chance, chance.randrange(4))
            script = [(chance.randrange(len(bundle.firsts)), chance.randrange(5)) for _ in range(12)]
            self.is_drawn(bundle, 90, [script])

    def test_lists_and_tuples_alike(self):
        one = Bundle([5, 6, 7], [[0, 1, [5, 1, 6]], [1, 2, [6, 7]]])
        other = Bundle((5, 6, 7), ((0, 1, (5, 1, 6)), (1, 2, (6, 7))))
        self.assertEqual(drawn_bars(one, 0), drawn_bars(other, 0))


class Size(Case):
    def test_words_of_the_point(self):
        self.gives((1, 1), lambda: bars_size(Bundle((5,), ())))
        self.gives((1, 3), lambda: bars_size(Bundle((5, 5, 5), [(0, 1, (5,)), (0, 2, (5,))])))
        self.gives((3, 2), lambda: bars_size(Bundle((5, 6), ())))
        self.gives((3, 4), lambda: bars_size(Bundle((5, 6), [(0, 1, (5, 6))])))
        self.gives((4, 4), lambda: bars_size(Bundle((5, 6), [(0, 1, (5, 1, 2, 6))])))
        # ways that are not least do not count, ways of one colour neither
        self.gives((3, 5), lambda: bars_size(Bundle((5, 6, 5), [(0, 1, (5, 1, 2, 6)), (0, 1, (5, 1, 6)), (0, 2, (5,))])))
        self.gives((5, 7), lambda: bars_size(Bundle((5, 6, 7), [(0, 1, (5, 6)), (1, 2, (6, 7))])))
        self.gives((7, 8), lambda: bars_size(Bundle((5, 6, 7, 8), [(0, 1, (5, 6)), (1, 2, (6, 1, 7))])))
        self.gives((46, 6), lambda: bars_size(Bundle((5, 6, 7, 8), [(0, 1, (5, *range(10, 24), 6))])))

    def test_60_columns(self):
        bundle = two_lots(3, 29)
        self.assertEqual(bars_size(bundle), (5, 60))
        squares = drawn_bars(bundle, 80)
        self.assertLessEqual(len(squares.levels[0]), 60)
        picture = naive_picture(squares)
        self.assertEqual(len(naive_islands(picture, (80,))), 29)
        self.fails(NoRoom, (310,), drawn_bars, two_lots(3, 30), 80)
        self.fails(NoRoom, (5 * 82,), drawn_bars, two_lots(3, 40), 80)

    def test_700_squares(self):
        bundle = two_lots(12, 24)
        self.assertEqual(bars_size(bundle), (14, 50))
        squares = drawn_bars(bundle, 80)
        picture = naive_picture(squares)
        self.assertLessEqual(len(picture), 700)
        islands = naive_islands(picture, (80,))
        self.assertEqual(len(islands), 24)
        for island in islands:
            self.assertEqual(least_lots(picture, island), 2)
        self.fails(NoRoom, (14 * 52,), drawn_bars, two_lots(12, 25), 80)
        self.fails(NoRoom, (750,), drawn_bars, two_lots(13, 24), 80)
        self.fails(NoRoom, (16 * 82,), drawn_bars, two_lots(14, 40), 80)


class Errors(Case):
    def test_colour(self):
        for thing in (-1, 100, *NO_NUMBERS):
            self.fails(BadColour, (thing,), drawn_bars, two_lots(14, 40), thing)

    def test_walls_in_a_colour_that_is_used(self):
        bundle = Bundle((5, 6, 7), [(0, 1, (5, 1, 6)), (0, 1, (5, 1, 2, 6))])
        for wall in (5, 6, 7, 1, 2):
            self.fails(WallUsed, (wall,), drawn_bars, bundle, wall)
        self.fails(WallUsed, (20,), drawn_bars, two_lots(14, 40), 20)
        self.assertIs(type(drawn_bars(bundle, 3)), Squares)
