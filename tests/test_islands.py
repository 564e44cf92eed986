"""[4.1], [4.2]: wild cells, islands, lots at them, separate pictures."""

from spreadhues.errors import BadColours, BarredMark, NoCell, NotSeparate
from spreadhues.islands import check_separate, is_separate, islands_of, lots_at
from spreadhues.pictures import Picture
from tests.helpers import (
    NO_NUMBERS, NO_SEQUENCES, Case, all_pictures, naive_islands, naive_parting, naive_patch, neighbours,
)

STAR = Picture([0, 1, 2, 3], [(0, 1), (1, 2), (1, 3)], [0, 2, 3])
TAKES_BARRED = (islands_of, is_separate, check_separate)


def naive_lots_at(picture, cells):
    parting = naive_parting(picture.colours, picture.ties, picture.marks)
    lots = []
    for mark, cell in enumerate(picture.marks):
        patch = naive_patch(picture.colours, picture.ties, cell)
        if parting[mark] == mark and any(neighbours(picture, other) & patch for other in cells):
            lots.append(mark)
    return tuple(lots)


class Islands(Case):
    def test_examples(self):
        self.gives(((1,),), islands_of, STAR)
        self.gives((), islands_of, STAR, (1,))
        line = Picture([0, 1, 2, 0, 0, 3, 4], [(k, k + 1) for k in range(6)], [0, 4])
        self.gives(((1, 2), (5, 6)), islands_of, line)
        self.gives(((1,), (5, 6)), islands_of, line, (2,))
        self.gives(((1, 2), (6,)), islands_of, line, (3, 50))
        self.gives((), islands_of, line, (3, 2, 1, 4, 4))
        self.gives((), islands_of, Picture([5], [], [0]))

    def test_a_cell_of_a_mark_s_colour_away_from_it_is_wild(self):
        self.gives(((1, 2), (3,)), islands_of, Picture([0, 1, 0, 0], [(0, 1), (1, 2)], [0]))

    def test_all_small_pictures(self):
        for marks in ([0], [3, 0], [1, 0, 2]):
            for picture in all_pictures(4, 3, marks):
                for barred in ((), (2,), (1, 2)):
                    if any(picture.colours[cell] in barred for cell in marks):
                        continue
                    due = naive_islands(picture, barred)
                    self.same(islands_of(picture, barred), due)
                    crowded = [island for island in due if len(naive_lots_at(picture, island)) > 2]
                    self.assertIs(is_separate(picture, barred), not crowded)
                    if crowded:
                        self.fails(NotSeparate, (crowded[0][0],), check_separate, picture, barred)
                    else:
                        self.assertIsNone(check_separate(picture, barred))


class LotsAt(Case):
    def test_examples(self):
        self.gives((0, 1, 2), lots_at, STAR, (1,))
        self.gives((), lots_at, STAR, ())
        self.gives((), lots_at, STAR, (0, 2))
        self.gives((0, 1, 2), lots_at, STAR, (0, 1, 1))
        # a lot is told by its least mark; a cell inside a patch may be tied to the patch
        pair = Picture([5, 5, 6, 7], [(0, 1), (1, 2), (2, 3)], [3, 1, 0])
        self.gives((0, 1), lots_at, pair, (2,))
        self.gives((1,), lots_at, pair, (0,))

    def test_all_small_pictures(self):
        for picture in all_pictures(4, 2, [2, 1, 0]):
            for cells in ((3,), (0,), (1, 2), (3, 2, 1, 0)):
                self.same(lots_at(picture, cells), naive_lots_at(picture, cells))

    def test_no_cell(self):
        for thing in NO_SEQUENCES:
            self.fails(NoCell, (thing,), lots_at, STAR, thing)
        for thing in (-1, 4, *NO_NUMBERS):
            self.fails(NoCell, (thing,), lots_at, STAR, (1, thing, 9))


class Barred(Case):
    def test_colours(self):
        for action in TAKES_BARRED:
            for thing in (*NO_SEQUENCES, tuple(range(10, 31))):
                self.fails(BadColours, (0,), action, STAR, thing)
            for thing in (-1, 100, *NO_NUMBERS):
                self.fails(BadColours, (2,), action, STAR, (0, 2, thing, None))

    def test_20_entries(self):
        self.gives(((1,),), islands_of, STAR, tuple(range(10, 30)))
        self.gives((), islands_of, STAR, (1,) * 20)

    def test_least_mark(self):
        for action in TAKES_BARRED:
            self.fails(BarredMark, (0,), action, STAR, (3, 2, 0))
            self.fails(BarredMark, (1,), action, STAR, (3, 2))
            self.fails(BarredMark, (2,), action, STAR, (1, 3))


class Separate(Case):
    def test_lots_at_an_island(self):
        """One, two and three lots; marks of one lot count once."""
        self.fails(NotSeparate, (1,), check_separate, STAR)
        self.gives(False, is_separate, STAR)
        self.gives(True, is_separate, STAR, (1,))
        joined = Picture([0, 1, 2, 3, 2], [(0, 1), (1, 2), (1, 4), (2, 4)], [0, 2, 4])
        self.gives(True, is_separate, joined)
        self.gives(True, is_separate, Picture([0, 1], [(0, 1)], [0]))
        # three lots at two islands, but at none of them alone
        self.gives(True, is_separate, Picture([0, 1, 2, 1, 3], [(0, 1), (1, 2), (2, 3), (3, 4)], [0, 2, 4]))

    def test_first_island(self):
        ties = [(mark, cell) for mark in (4, 5, 6) for cell in (1, 3)] + [(0, 4), (2, 5)]
        picture = Picture([1, 2, 3, 4, 10, 11, 12], ties, [4, 5, 6])
        self.fails(NotSeparate, (1,), check_separate, picture)
        self.fails(NotSeparate, (3,), check_separate, picture, (2,))

    def test_700_cells(self):
        for marks in ([0], [0, 1], [0, 1, 2, 3]):
            many = len(marks)
            ties = [(cell % many, cell) for cell in range(many, 700)] + [((cell + 1) % many, cell)
                                                                       for cell in range(many, 700)]
            picture = Picture([cell % 90 for cell in range(700)], ties, marks)
            self.assertIs(is_separate(picture), True)
            self.assertIsNone(check_separate(picture))
        grid = [(cell, cell + 1) for cell in range(699)] + [(cell, cell + 26) for cell in range(674)]
        picture = Picture([cell % 7 for cell in range(700)], grid, [0, 350, 699])
        self.assertEqual(islands_of(picture), naive_islands(picture, ()))
