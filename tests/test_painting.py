"""[2.8]: cells beyond, and the colours with which a cell comes."""

import itertools

from spreadhues.errors import BadScript, MarkCell, NoCell
from spreadhues.painting import free_cells, reaching_colours
from spreadhues.patches import coloured
from spreadhues.pictures import Picture, with_colours
from spreadhues.running import came_at, run_script
from tests.helpers import NO_NUMBERS, NO_SEQUENCES, Case, all_pictures, naive_came, naive_run

# a line 0 1 0 2 0 1 with a mark at its head
LINE = Picture([0, 1, 0, 2, 0, 1], [(k, k + 1) for k in range(5)], [0])
SCRIPT = ((0, 1), (0, 0))


def came(picture, script):
    return naive_came(naive_run(picture.colours, picture.ties, picture.marks, script), len(picture))


class Free(Case):
    def test_free_cells(self):
        self.gives((4, 5), free_cells, LINE, SCRIPT)
        self.gives((2, 3, 4, 5), free_cells, LINE, ())
        self.gives((), free_cells, LINE, ((0, 1), (0, 0), (0, 2), (0, 0)))
        self.gives((), free_cells, Picture([0], [], [0]), ())
        self.gives((1,), free_cells, Picture([0, 0], [], [0]), ((0, 5),))

    def test_wrong_scripts(self):
        for action in (free_cells, lambda picture, script: reaching_colours(picture, script, None)):
            for thing in (*NO_SEQUENCES, ((0, 0),) * 13):
                self.fails(BadScript, (0, "many"), action, LINE, thing)
            self.fails(BadScript, (1, "pour"), action, LINE, ((0, 0), (0,), None))
            for thing in (-1, 1, *NO_NUMBERS):
                self.fails(BadScript, (0, "mark"), action, LINE, ((thing, 100),))
            for thing in (-1, 100, *NO_NUMBERS):
                self.fails(BadScript, (0, "colour"), action, LINE, ((0, thing),))

    def test_free_exactly_if_it_comes_in_no_colour(self):
        for marks, script in (([0], SCRIPT), ([3, 1], ((0, 1), (1, 0), (0, 2)))):
            for picture in all_pictures(4, 2, marks):
                free = free_cells(picture, script)
                for cell in range(4):
                    painted = [came(coloured(picture, [cell], colour), script)[cell] for colour in range(4)]
                    self.assertEqual(cell in free, painted == [None] * 4)

    def test_free_cells_may_be_painted_and_cells_that_never_come_tied(self):
        script = ((0, 1), (1, 1), (0, 0))
        for picture in all_pictures(4, 2, [0, 1]):
            free = free_cells(picture, script)
            never = [cell for cell in range(4) if came_at(picture, script)[cell] is None]
            couples = set(itertools.combinations(never, 2))
            for ties in (set(picture.ties) | couples, set(picture.ties) - couples):
                for colour in (0, 1, 5):
                    colours = [colour if cell in free else picture.colours[cell] for cell in range(4)]
                    changed = Picture(colours, list(ties), picture.marks)
                    self.same(came_at(changed, script), came_at(picture, script))
                    self.same(run_script(changed, script).moments, run_script(picture, script).moments)


class Reaching(Case):
    def test_reaching_colours(self):
        self.gives((0, 1), reaching_colours, LINE, SCRIPT, 1)
        self.gives((0, 1), reaching_colours, LINE, SCRIPT, 2)
        self.gives((0,), reaching_colours, LINE, SCRIPT, 3)
        self.gives((), reaching_colours, LINE, SCRIPT, 4)
        self.gives((0,), reaching_colours, LINE, (), 1)
        self.gives((), reaching_colours, LINE, (), 2)
        self.gives((0, 1, 2, 99), reaching_colours, LINE, ((0, 2), (0, 99), (0, 1), (0, 2)), 1)

    def test_colours_of_other_marks(self):
        picture = Picture([3, 9, 8, 7], [(0, 1), (1, 2)], [0, 2, 3])
        self.gives((1, 3, 8), reaching_colours, picture, ((0, 1),), 1)
        lonely = Picture([3, 9, 8], [(0, 1)], [0, 2])
        self.gives((1, 3), reaching_colours, lonely, ((0, 1),), 1)

    def test_cells_and_marks(self):
        picture = Picture([0, 1, 2], [], [2, 0])
        for thing in (-1, 3, *NO_NUMBERS):
            self.fails(NoCell, (thing,), reaching_colours, picture, (), thing)
        self.fails(MarkCell, (0,), reaching_colours, picture, (), 2)
        self.fails(MarkCell, (1,), reaching_colours, picture, (), 0)
        self.gives((), reaching_colours, picture, (), 1)
        self.fails(BadScript, (0, "mark"), reaching_colours, picture, ((2, 0),), 0)

    def test_all_small_pictures(self):
        for marks, script in (([0], SCRIPT), ([0, 2], ((0, 1), (1, 0), (0, 3)))):
            for picture in all_pictures(4, 2, marks):
                for cell in (1, 3):
                    due = tuple(
                        colour for colour in range(5) if came(coloured(picture, [cell], colour), script)[cell] is not None
                    )
                    self.same(reaching_colours(picture, script, cell), due)

    def test_all_hundred_colours(self):
        script = tuple((0, colour) for colour in (90, 91, 92, 93, 94, 95, 96, 97, 98, 99, 50, 40))
        due = tuple(
            colour for colour in range(100) if came_at(with_colours(LINE, [7, colour, 8, 8, 8, 8]), script)[1] is not None
        )
        self.assertEqual(due, (7, 40, 50, 90, 91, 92, 93, 94, 95, 96, 97, 98, 99))
        self.gives(due, reaching_colours, with_colours(LINE, [7, 3, 8, 8, 8, 8]), script, 1)

    def test_a_picture_of_700_cells(self):
        line = Picture([k % 2 for k in range(700)], [(k, k + 1) for k in range(699)], [0])
        script = tuple((0, (k + 1) % 2) for k in range(12))
        self.gives((0, 1), reaching_colours, line, script, 12)
        self.gives((0,), reaching_colours, line, script, 13)
        self.gives((), reaching_colours, line, script, 14)
