"""[1.4]: patches, colouring, distances and drawings of one cell for each patch."""

from spreadhues.errors import BadColour, NoCell, NoDrawing
from spreadhues.patches import (
    coloured, distances_of, drawn_together, is_one_patch, patch_of, patches_of,
)
from spreadhues.pictures import Picture
from tests.helpers import NO_NUMBERS, NO_SEQUENCES, Case, all_pictures, naive_patch

WRONG_CELLS = (-1, 6, *NO_NUMBERS)


def sample():
    """Cells 1, 3, 0 hang together, 4 and 5 too; cell 2 has their colour but is tied to nothing of it."""
    return Picture([7, 7, 7, 7, 8, 8], [(1, 3), (0, 3), (0, 4), (4, 5), (5, 2)], [0, 2])


class Patches(Case):
    def test_patch_of(self):
        for cell in (0, 1, 3):
            self.gives((0, 1, 3), patch_of, sample(), cell)
        self.gives((2,), patch_of, sample(), 2)
        self.gives((4, 5), patch_of, sample(), 5)
        for thing in WRONG_CELLS:
            self.fails(NoCell, (thing,), patch_of, sample(), thing)

    def test_patches_of(self):
        self.gives(((0, 1, 3), (2,), (4, 5)), patches_of, sample())
        self.gives(((0,),), patches_of, Picture([0], [], [0]))
        self.gives(((0, 2), (1,)), patches_of, Picture([0, 0, 0], [(0, 2)], [0]))

    def test_is_one_patch(self):
        self.gives(False, is_one_patch, sample())
        self.gives(True, is_one_patch, Picture([0], [], [0]))
        self.gives(True, is_one_patch, Picture([5, 5, 5], [(0, 2), (1, 2)], [0]))
        self.gives(False, is_one_patch, Picture([5, 5, 5], [(0, 2)], [0]))
        self.gives(False, is_one_patch, Picture([5, 5, 4], [(0, 2), (1, 2)], [0]))

    def test_a_long_patch(self):
        line = Picture([3] * 700, [(cell, cell + 1) for cell in range(699)], [0])
        self.gives((tuple(range(700)),), patches_of, line)

    def test_all_small_pictures(self):
        for cells in (1, 2, 3, 4):
            for picture in all_pictures(cells, 2, [0]):
                patches = [tuple(sorted(naive_patch(picture.colours, picture.ties, cell))) for cell in range(cells)]
                self.same(tuple(patch_of(picture, cell) for cell in range(cells)), tuple(patches))
                self.same(patches_of(picture), tuple(sorted(set(patches))))
                self.same(is_one_patch(picture), len(set(patches)) == 1)


class Coloured(Case):
    def test_cells_get_the_colour(self):
        due = Picture([7, 9, 7, 9, 9, 8], sample().ties, [0, 2])
        self.gives(due, coloured, sample(), [4, 1, 3, 1], 9)
        self.gives(sample(), coloured, sample(), [], 9)

    def test_first_wrong_cell(self):
        for thing in WRONG_CELLS:
            self.fails(NoCell, (thing,), coloured, sample(), [0, thing, 77], 9)

    def test_no_sequence(self):
        for thing in NO_SEQUENCES:
            self.fails(NoCell, (thing,), coloured, sample(), thing, 9)

    def test_wrong_colour_behind_wrong_cells(self):
        for thing in (-1, 100, *NO_NUMBERS):
            self.fails(BadColour, (thing,), coloured, sample(), [0], thing)
            self.fails(BadColour, (thing,), coloured, sample(), [], thing)
            self.fails(NoCell, (6,), coloured, sample(), [6], thing)


def naive_distances(picture, cells):
    """Least sums of ways on which a step to another colour costs one, found by going on until nothing changes."""
    steps = [0 if cell in cells else None for cell in range(len(picture))]
    while True:
        before = list(steps)
        for one, other in [*picture.ties, *((b, a) for a, b in picture.ties)]:
            if steps[one] is not None:
                cost = steps[one] + (picture.colours[one] != picture.colours[other])
                if steps[other] is None or steps[other] > cost:
                    steps[other] = cost
        if steps == before:
            return tuple(steps)


class Distances(Case):
    def test_patches_count_once(self):
        self.gives((0, 0, 2, 0, 1, 1), distances_of, sample(), [3])
        self.gives((2, 2, 0, 2, 1, 1), distances_of, sample(), [2])
        self.gives((0, 0, 0, 0, 1, 1), distances_of, sample(), [2, 1, 0, 2])

    def test_no_way_leads(self):
        self.gives((0, 1, None), distances_of, Picture([0, 1, 0], [(0, 1)], [0]), [0])
        self.gives((None, None), distances_of, Picture([0, 1], [(0, 1)], [0]), [])

    def test_wrong_cells(self):
        for thing in WRONG_CELLS:
            self.fails(NoCell, (thing,), distances_of, sample(), [0, thing, 99])
        for thing in NO_SEQUENCES:
            self.fails(NoCell, (thing,), distances_of, sample(), thing)

    def test_all_small_pictures(self):
        for cells in (1, 2, 3, 4):
            for picture in all_pictures(cells, 2, [0]):
                for chosen in ([0], [cells - 1], [0, cells - 1]):
                    self.same(distances_of(picture, chosen), naive_distances(picture, chosen))

    def test_a_line_of_700(self):
        line = Picture([cell // 2 % 2 for cell in range(700)], [(cell, cell + 1) for cell in range(699)], [0])
        self.same(distances_of(line, [0]), tuple(cell // 2 for cell in range(700)))


class DrawnTogether(Case):
    def test_one_cell_for_each_patch(self):
        self.gives(Picture([7, 7, 8], [(0, 2), (1, 2)], [0, 1]), drawn_together, sample())

    def test_marks_lie_at_their_patches_cells(self):
        picture = Picture([1, 2, 2, 1], [(0, 1), (1, 2), (2, 3), (1, 3)], [3, 2])
        self.gives(Picture([1, 2, 1], [(0, 1), (1, 2)], [2, 1]), drawn_together, picture)

    def test_a_picture_with_nothing_to_draw_together_stays(self):
        picture = Picture([1, 2, 1], [(0, 1), (1, 2)], [2])
        self.gives(picture, drawn_together, picture)

    def test_first_mark_in_an_earlier_ones_patch(self):
        ties = [(0, 1), (2, 3)]
        self.fails(NoDrawing, (1,), drawn_together, Picture([0] * 4, ties, [1, 0]))
        self.fails(NoDrawing, (2,), drawn_together, Picture([0] * 4, ties, [1, 3, 0, 2]))
        self.fails(NoDrawing, (3,), drawn_together, Picture([0] * 5, ties, [1, 3, 4, 0]))

    def test_all_small_pictures(self):
        for picture in all_pictures(4, 2, [2]):
            drawn = drawn_together(picture)
            patches = patches_of(picture)
            self.same(drawn.colours, tuple(picture.colours[patch[0]] for patch in patches))
            number = {cell: k for k, patch in enumerate(patches) for cell in patch}
            ties = {tuple(sorted((number[a], number[b]))) for a, b in picture.ties if number[a] != number[b]}
            self.same(drawn.ties, tuple(sorted(ties)))
            self.same(drawn.marks, (number[2],))
            self.same(len(patches_of(drawn)), len(drawn))
