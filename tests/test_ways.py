"""[4.3], [4.4]: ways through wild cells, and their least rows."""

import itertools
import random

from spreadhues.errors import BadColours, BadRow, BarredMark, NoMark, TooMany
from spreadhues.pictures import Picture
from spreadhues.squares import line_picture
from spreadhues.ways import least_rows, rows_between, way_within, within_fault
from tests.helpers import (
    NO_NUMBERS, NO_SEQUENCES, Case, all_pictures, all_rows, hides, naive_least, naive_patch, naive_rows, naive_wild,
    naive_ways, naive_strike, neighbours,
)

STAR = Picture([0, 1, 2, 3], [(0, 1), (1, 2), (1, 3)], [0, 2, 3])


def line(inner):
    """A line of the colours between two marks of the colour 98 and 99."""
    return line_picture([98, *inner, 99])


def layered(sizes):
    """All cells of a layer are tied to all of the next one; the first and the last cell are the marks."""
    layers, colours = [[0]], [98]
    for size in sizes:
        layers.append(list(range(len(colours), len(colours) + size)))
        colours.extend(layers[-1])
    layers.append([len(colours)])
    ties = [tie for one, other in zip(layers, layers[1:]) for tie in itertools.product(one, other)]
    return Picture([*colours, 99], ties, [0, len(colours)])


def right_way(picture, mark, to, row, barred, way):
    """Whether a way is right, by the words of the points."""
    wild = naive_wild(picture, barred)
    patches = [naive_patch(picture.colours, picture.ties, picture.marks[k]) for k in (mark, to)]
    return (
        isinstance(way, tuple) and len(way) > 0 and len(set(way)) == len(way)
        and way[0] in patches[0] and way[-1] in patches[1]
        and all(b in neighbours(picture, a) for a, b in zip(way, way[1:]))
        and set(way[1:-1]) <= wild and hides(row, naive_strike([picture.colours[cell] for cell in way]))
    )


class Least(Case):
    def test_examples(self):
        self.gives((), least_rows, ())
        self.gives(((),), least_rows, ((), (1,)))
        self.gives(((1, 2), (2, 1)), least_rows, ((2, 1), (1, 2), (2, 1), (1, 0, 2), (1, 2, 3)))
        self.gives(((3, 4), (0, 1, 2), (0, 2, 1)), least_rows, ((0, 2, 1), (0, 1, 2), (3, 4), (3, 0, 4)))
        self.gives(((9, 1, 9), (9, 2, 9)), least_rows, ((9, 2, 9), (9, 1, 9), (9, 1, 2, 9)))

    def test_all_small_sets_of_rows(self):
        rows = list(all_rows(2, 3))
        for many in (1, 2, 3):
            for chosen in itertools.combinations(rows, many):
                self.same(least_rows(chosen[::-1]), naive_least(chosen))


class Between(Case):
    def test_examples(self):
        self.gives(((0, 1, 2),), rows_between, STAR, 0, 1)
        self.gives(((2, 1, 0),), rows_between, STAR, 1, 0)
        self.gives((), rows_between, STAR, 0, 1, (1,))
        self.gives(((2,),), rows_between, STAR, 1, 1)
        # a way through another mark's patch is no way
        self.gives((), rows_between, Picture([0, 1, 2], [(0, 1), (1, 2)], [0, 1, 2]), 0, 2)
        # marks that are one, and marks that are tied
        self.gives(((5,),), rows_between, Picture([5, 5, 1], [(0, 1), (1, 2), (0, 2)], [0, 1]), 1, 0)
        self.gives(((5, 6),), rows_between, Picture([5, 6, 1], [(0, 1), (1, 2), (0, 2)], [0, 1]), 0, 1)
        # several ways: 0 1 0, 0 2 3 0, and one through both in which a least one is hidden
        picture = Picture([0, 1, 2, 3, 0], [(0, 1), (1, 4), (0, 2), (2, 3), (3, 4), (1, 2)], [0, 4])
        self.gives(((0, 1, 0), (0, 2, 3, 0)), rows_between, picture, 0, 1)
        self.gives(((0, 1, 0), (0, 3, 2, 0)), rows_between, picture, 1, 0)
        self.gives(((0, 2, 3, 0),), rows_between, picture, 0, 1, (1,))

    def test_all_small_pictures(self):
        for marks in ([0, 3], [0, 1, 3]):
            for picture in all_pictures(4, 3, marks):
                for barred in ((), (2,)):
                    if any(picture.colours[cell] in barred for cell in marks):
                        continue
                    for to in range(1, len(marks)):
                        self.same(rows_between(picture, 0, to, barred), naive_rows(picture, 0, to, barred))

    def test_larger_pictures(self):
        chance = random.Random(43)
        for _ in range(300):
            cells = chance.randrange(5, 8)
            ties = [tie for tie in itertools.combinations(range(cells), 2) if chance.random() < 0.4]
            picture = Picture([chance.randrange(4) for _ in range(cells)], ties, chance.sample(range(cells), 3))
            for mark, to in itertools.product(range(3), repeat=2):
                self.same(rows_between(picture, mark, to), naive_rows(picture, mark, to, ()))

    def test_14_and_15_wild_patches(self):
        self.gives((tuple(line(range(14)).colours),), rows_between, line(range(14)), 0, 1)
        for mark, to in ((0, 1), (1, 0), (0, 0)):
            self.fails(TooMany, (14,), rows_between, line(range(15)), mark, to)
        self.gives((), rows_between, line(range(15)), 0, 1, (7,))
        self.gives((), rows_between, line(range(25)), 0, 1, tuple(range(11)))
        # patches far from all marks count, patches count once
        apart = Picture([0, 1, *range(2, 17)], [(0, 1)], [0, 1])
        self.fails(TooMany, (14,), rows_between, apart, 0, 1)
        self.gives(((0, 1),), rows_between, apart, 0, 1, (2,))
        pairs = [colour for colour in range(14) for _ in range(2)]
        self.gives((tuple(line(range(14)).colours),), rows_between, line(pairs), 0, 1)

    def test_as_many_least_rows_as_there_can_be(self):
        for sizes, due in (((3, 3, 3, 3, 2), 162), ((2,) * 7, 128), ((4, 4, 3, 3), 144)):
            picture = layered(sizes)
            rows = rows_between(picture, 0, 1)
            self.assertEqual((len(rows), len(set(rows))), (due, due))
            self.assertEqual(list(rows), sorted(rows))
            self.same(rows_between(picture, 1, 0), tuple(sorted(row[::-1] for row in rows)))

    def test_700_cells(self):
        inner = [14 * cell // 698 for cell in range(698)]
        self.gives(((98, *range(14), 99),), rows_between, line(inner), 0, 1)


class Within(Case):
    def test_examples(self):
        self.gives((0, 1, 2), way_within, STAR, 0, 1, (0, 1, 2))
        self.gives((2, 1, 0), way_within, STAR, 1, 0, (5, 2, 2, 0, 1, 1, 0))
        self.gives(None, way_within, STAR, 0, 1, (1, 0, 2))
        self.gives(None, way_within, STAR, 0, 1, ())
        self.gives(None, way_within, STAR, 0, 1, (0, 1, 2), (1,))
        self.gives((2,), way_within, STAR, 1, 1, (0, 2))
        self.gives(None, way_within, STAR, 1, 1, (0, 1))

    def test_all_small_pictures(self):
        rows = list(all_rows(3, 3))
        for picture in all_pictures(4, 3, [0, 3]):
            for barred in ((), (2,)):
                if picture.colours[0] in barred or picture.colours[3] in barred:
                    continue
                least = naive_rows(picture, 0, 1, barred)
                for row in rows:
                    way = way_within(picture, 0, 1, row, barred)
                    if any(hides(row, other) for other in least):
                        self.assertIsNone(within_fault(picture, 0, 1, row, way, barred))
                        self.assertTrue(right_way(picture, 0, 1, row, barred, way))
                    else:
                        self.assertIsNone(way)

    def test_many_wild_patches(self):
        """60 colours, 700 cells: no bound of patches."""
        grid = [(cell, cell + 1) for cell in range(699) if cell % 26 != 25] + [(c, c + 26) for c in range(674)]
        picture = Picture([cell % 3 for cell in range(700)], grid, [0, 673])
        for row in ((0, 1, 2) * 20, (0, 2, 1) * 20, (0, 1) * 30):
            way = way_within(picture, 0, 1, row)
            if way is not None:
                self.assertIsNone(within_fault(picture, 0, 1, row, way))
                self.assertTrue(right_way(picture, 0, 1, row, (), way))
        straight = line(range(58))
        self.gives(tuple(range(60)), way_within, straight, 0, 1, (98, *range(58), 99))
        self.gives(None, way_within, straight, 0, 1, (98, *range(57), 99))
        self.gives(tuple(range(59, -1, -1)), way_within, straight, 1, 0, (99, *range(57, -1, -1), 98))


class Fault(Case):
    def test_all_sequences_of_cells(self):
        pictures = [
            STAR, Picture([0, 1, 1, 0], [(0, 1), (1, 2), (2, 3), (0, 2)], [0, 3]),
            Picture([0, 0, 1, 2], [(0, 1), (1, 2), (2, 3)], [0, 3]), Picture([0, 1, 0, 2], [(0, 1), (1, 2), (2, 3)], [2, 3]),
        ]
        for picture in pictures:
            for way in all_rows(4, 4):
                for row in ((0, 1, 2), (0, 1, 0), (0, 2), ()):
                    fault = within_fault(picture, 0, 1, row, way)
                    self.assertEqual(fault is None, right_way(picture, 0, 1, row, (), way))
                    found = way_within(picture, 0, 1, row)
                    self.assertIs(found is None, all(not hides(row, naive_strike([picture.colours[c] for c in other]))
                                                     for other in naive_ways(picture, 0, 1, ())))

    def test_words(self):
        picture = Picture([0, 1, 2, 0, 3], [(0, 1), (1, 2), (2, 3), (1, 3), (2, 4)], [0, 3, 4])
        good = (0, 1, 2, 3)
        for row in ((0, 1, 2, 0), (0, 0, 1, 5, 2, 0)):
            self.gives(None, within_fault, picture, 0, 1, row, good)
        for thing in (*NO_SEQUENCES, (), (0, 1, 5), (0, 1, -1)):
            self.gives("cells", within_fault, picture, 0, 1, (0, 1, 2, 0), thing)
        for thing in NO_NUMBERS:
            self.gives("cells", within_fault, picture, 0, 1, (0, 1, 2, 0), (thing, 1, 2, 3))
        row = (0, 1, 2, 0)
        self.gives("twice", within_fault, picture, 0, 1, row, (0, 1, 0, 1, 3))
        self.gives("tie", within_fault, picture, 0, 1, row, (0, 2, 3))
        self.gives("ends", within_fault, picture, 0, 1, row, (1, 2, 3))
        self.gives("ends", within_fault, picture, 0, 1, row, (0, 1, 2))
        self.gives("ends", within_fault, picture, 0, 1, row, (3, 2, 1, 0))
        self.gives("between", within_fault, picture, 0, 2, (0, 1, 0, 2, 3), (0, 1, 3, 2, 4))
        self.gives("between", within_fault, picture, 0, 1, row, good, (2,))
        self.gives("row", within_fault, picture, 0, 1, (0, 2, 1, 0), good)
        self.gives("row", within_fault, picture, 0, 1, (), good)

    def test_the_first_word(self):
        picture = Picture([0, 1, 2, 0, 3], [(0, 1), (1, 2), (2, 3), (1, 3), (2, 4)], [0, 3, 4])
        self.gives("cells", within_fault, picture, 0, 1, (), (9, 0, 0))
        self.gives("twice", within_fault, picture, 0, 1, (), (2, 2, 0))
        self.gives("tie", within_fault, picture, 0, 1, (), (2, 0))
        self.gives("ends", within_fault, picture, 0, 1, (), (2, 3, 1))
        self.gives("between", within_fault, picture, 0, 2, (), (0, 1, 3, 2, 4))

    def test_marks_that_are_one(self):
        picture = Picture([5, 5, 1, 5], [(0, 1), (1, 2), (0, 2), (0, 3)], [0, 1])
        self.gives(None, within_fault, picture, 0, 1, (5,), (1,))
        self.gives(None, within_fault, picture, 0, 1, (5,), (0, 1))
        self.gives("between", within_fault, picture, 0, 1, (5,), (3, 0, 1))
        self.gives("row", within_fault, picture, 0, 1, (1,), (0,))
        self.gives(None, within_fault, picture, 0, 0, (5, 1, 5), (1, 2, 0))


class Errors(Case):
    def actions(self):
        yield rows_between
        yield lambda picture, mark, to, barred=(): way_within(picture, mark, to, (0,), barred)
        yield lambda picture, mark, to, barred=(): within_fault(picture, mark, to, (0,), None, barred)

    def test_marks_then_colours_then_barred_marks(self):
        for action in self.actions():
            for thing in (-1, 3, *NO_NUMBERS):
                self.fails(NoMark, (thing,), action, STAR, thing, 9, None)
                self.fails(NoMark, (thing,), action, STAR, 2, thing, None)
            for thing in (*NO_SEQUENCES, (0,) * 21):
                self.fails(BadColours, (0,), action, STAR, 0, 1, thing)
            for thing in (-1, 100, *NO_NUMBERS):
                self.fails(BadColours, (1,), action, STAR, 0, 1, (0, thing))
            self.fails(BarredMark, (1,), action, STAR, 0, 0, (3, 2, *range(10, 28)))

    def test_barred_mark_comes_before_too_many(self):
        self.fails(BarredMark, (0,), rows_between, line(range(15)), 0, 1, (98,))

    def test_rows(self):
        for action in (way_within, lambda *given: within_fault(*given[:4], None, *given[4:])):
            for thing in (*NO_SEQUENCES, (0,) * 61):
                self.fails(BadRow, (0,), action, STAR, 0, 1, thing, None)
            for thing in (-1, 100, *NO_NUMBERS):
                self.fails(BadRow, (1,), action, STAR, 0, 1, (0, thing), None)
            self.fails(NoMark, (3,), action, STAR, 0, 3, None, None)
            self.fails(BadColours, (0,), action, STAR, 0, 1, (0,) * 60, None)
