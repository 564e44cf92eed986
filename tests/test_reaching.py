"""[3.5], [3.6]: depths, what a row reaches, and the ways and moments that show it."""

import itertools

from spreadhues.errors import BadRow, NoCell, NoMark, NotJoined
from spreadhues.pictures import Picture
from spreadhues.reaching import (
    Unreached, WayTo, depth_of, first_moments, makes_one, patch_depths, reached_cells, shown_by_row, way_fault, way_to,
)
from spreadhues.rowsone import PartingLine, is_hidden, struck_row
from tests.helpers import NO_NUMBERS, NO_SEQUENCES, Case, all_pictures, all_rows, naive_run
from tests.test_patches import naive_distances

# a way 0 1 1 2 with a bypass 0 2 beside it, and a lonely cell
PICTURE = Picture([0, 1, 1, 2, 2, 0], [(0, 1), (1, 2), (2, 3), (0, 4)], [3, 0])
ROW = (1, 2, 1, 0)

ROW_ACTIONS = (
    first_moments, reached_cells, makes_one, shown_by_row,
    lambda picture, mark, row: way_to(picture, mark, row, None),
    lambda picture, mark, row: way_fault(picture, mark, row, None, None),
)


def due_moments(picture, mark, row):
    """The first moments, by a run pour by pour into the mark alone."""
    alone = [picture.marks[mark]]
    moments = naive_run(picture.colours, picture.ties, alone, [(0, colour) for colour in row])
    came = [None] * len(picture)
    for moment, (_, _, _, inside) in enumerate(moments):
        for cell in inside:
            if came[cell] is None:
                came[cell] = moment
    return tuple(came), moments


class Depths(Case):
    def test_patch_depths(self):
        self.gives((0, 1, 1, 2, 1, None), patch_depths, PICTURE, 1)
        self.gives((2, 1, 1, 0, 3, None), patch_depths, PICTURE, 0)
        self.gives((0,), patch_depths, Picture([5], [], [0]), 0)

    def test_depth_of(self):
        line = Picture([0, 0, 1, 0], [(0, 1), (1, 2), (2, 3)], [1, 3])
        self.gives(2, depth_of, line, 0)
        self.gives(0, depth_of, Picture([5, 5], [(0, 1)], [0]), 0)
        self.fails(NotJoined, (5,), depth_of, PICTURE, 0)
        self.fails(NotJoined, (1,), depth_of, Picture([0, 1, 0], [(0, 2)], [2]), 0)

    def test_wrong_marks(self):
        for action in (patch_depths, depth_of):
            for thing in (-1, 2, *NO_NUMBERS):
                self.fails(NoMark, (thing,), action, PICTURE, thing)

    def test_all_small_pictures(self):
        for picture in all_pictures(4, 2, [2, 0]):
            for mark in (0, 1):
                due = naive_distances(picture, [picture.marks[mark]])
                self.same(patch_depths(picture, mark), due)
                if None in due:
                    self.fails(NotJoined, (due.index(None),), depth_of, picture, mark)
                else:
                    self.same(depth_of(picture, mark), max(due))


class Rows(Case):
    def test_a_row(self):
        self.gives((0, 1, 1, 2, 2, None), first_moments, PICTURE, 1, ROW)
        self.gives((0, 1, 2, 3, 4), reached_cells, PICTURE, 1, ROW)
        self.gives(False, makes_one, PICTURE, 1, ROW)
        self.gives((0, 0, 0, 0, 0, 0), shown_by_row, PICTURE, 1, ROW)
        self.gives((0, 1, 1, 1, 2, 0), shown_by_row, PICTURE, 0, (1,))
        self.gives((4, 2, 0), first_moments, Picture([0, 1, 2], [(0, 1), (1, 2)], [2]), 0, (0, 1, 2, 0))

    def test_the_empty_row(self):
        picture = Picture([3, 3, 4], [(0, 1), (1, 2)], [1])
        self.gives((0, 0, None), first_moments, picture, 0, ())
        self.gives((0, 1), reached_cells, picture, 0, ())
        self.gives((3, 3, 4), shown_by_row, picture, 0, ())
        self.gives(False, makes_one, picture, 0, ())
        self.gives(True, makes_one, Picture([3, 3], [(0, 1)], [1]), 0, ())

    def test_a_picture_becomes_one_patch(self):
        line = Picture([0, 1, 0, 1], [(0, 1), (1, 2), (2, 3)], [0])
        self.gives(True, makes_one, line, 0, (1, 0, 1))
        self.gives(False, makes_one, line, 0, (1, 0))
        self.gives(True, makes_one, line, 0, (1, 5, 0, 0, 1, 7))

    def test_idle_pours_count_as_moments(self):
        line = Picture([0, 1, 2], [(0, 1), (1, 2)], [0])
        self.gives((0, 3, 5), first_moments, line, 0, (0, 0, 1, 1, 2))

    def test_120_colours_and_one_beyond(self):
        line = Picture([cell % 2 for cell in range(700)], [(cell, cell + 1) for cell in range(699)], [0])
        row = [1, 0] * 60
        due = tuple(cell if cell <= 120 else None for cell in range(700))
        self.gives(due, first_moments, line, 0, row)
        for action in ROW_ACTIONS:
            self.fails(BadRow, (0,), action, line, 0, row + [1])

    def test_wrong_marks_come_first(self):
        for action in ROW_ACTIONS:
            for thing in (-1, 2, *NO_NUMBERS):
                self.fails(NoMark, (thing,), action, PICTURE, thing, None)

    def test_wrong_rows(self):
        for action in ROW_ACTIONS:
            for thing in NO_SEQUENCES:
                self.fails(BadRow, (0,), action, PICTURE, 0, thing)
            for thing in (-1, 100, *NO_NUMBERS):
                self.fails(BadRow, (1,), action, PICTURE, 0, [0, thing, None])

    def test_all_small_pictures(self):
        for marks, colours in (([0], 3), ([2, 1], 2)):
            for picture in all_pictures(3, colours, marks):
                for row in all_rows(3, 3):
                    mark = len(marks) - 1
                    due, moments = due_moments(picture, mark, row)
                    self.same(first_moments(picture, mark, row), due)
                    self.same(reached_cells(picture, mark, row), tuple(sorted(moments[-1][3])))
                    self.same(makes_one(picture, mark, row), len(moments[-1][3]) == 3)
                    self.same(shown_by_row(picture, mark, row), moments[-1][2])

    def test_four_cells(self):
        for picture in all_pictures(4, 3, [3]):
            for row in ((0, 1, 2, 0), (2, 1, 1, 0, 2), (1, 0)):
                due, moments = due_moments(picture, 0, row)
                self.same(first_moments(picture, 0, row), due)
                self.same(shown_by_row(picture, 0, row), moments[-1][2])


def simple_ways(picture, start):
    """All ways of tied cells from the start on with no cell twice."""
    near = {cell: set() for cell in range(len(picture))}
    for one, other in picture.ties:
        near[one].add(other)
        near[other].add(one)
    ways = [[start]]
    for way in ways:
        ways.extend(way + [cell] for cell in sorted(near[way[-1]] - set(way)))
    return ways


class Ways(Case):
    def test_results(self):
        for kind, name in ((WayTo, "cells"), (Unreached, "moments")):
            given = [0, 1]
            self.assertIs(getattr(kind(given), name), given)
            self.assertTrue(kind((0, 1)) == kind((0, 1)))
            self.assertFalse(kind((0, 1)) != kind((0, 1)))
            for other in (kind((0,)), None, (0, 1)):
                self.assertTrue(kind((0, 1)) != other)
                self.assertFalse(kind((0, 1)) == other)
        self.assertFalse(WayTo((0,)) == Unreached((0,)))
        self.assertFalse(WayTo((0,)) == PartingLine((0,)))

    def test_way_to(self):
        self.gives(WayTo((0, 1, 2, 3)), way_to, PICTURE, 1, ROW, 3)
        self.gives(WayTo((0,)), way_to, PICTURE, 1, (), 0)
        self.gives(WayTo((3, 2)), way_to, PICTURE, 0, (1,), 2)
        self.assertIsInstance(way_to(PICTURE, 1, ROW, 5), Unreached)
        self.assertIsInstance(way_to(PICTURE, 1, (2, 1), 3), Unreached)

    def test_wrong_cells(self):
        for thing in (-1, 6, *NO_NUMBERS):
            self.fails(NoCell, (thing,), way_to, PICTURE, 0, ROW, thing)
            self.fails(NoCell, (thing,), way_fault, PICTURE, 0, ROW, thing, None)
        self.fails(BadRow, (0,), way_to, PICTURE, 0, [100], 9)

    def test_own_answers_are_right(self):
        for picture in all_pictures(4, 2, [1]):
            for row in ((), (0,), (1, 0), (0, 1, 0), (2, 1, 0, 1)):
                due, moments = due_moments(picture, 0, row)
                for cell in range(4):
                    told = way_to(picture, 0, row, cell)
                    self.assertIsInstance(told, Unreached if due[cell] is None else WayTo)
                    self.assertIsNone(way_fault(picture, 0, row, cell, told))
                    self.assertTrue(isinstance(told, Unreached) or type(told.cells) is tuple)
                    self.assertTrue(isinstance(told, WayTo) or type(told.moments) is tuple)

    def test_reached_exactly_if_a_way_is_hidden(self):
        for picture in all_pictures(4, 2, [1]):
            ways = simple_ways(picture, 1)
            for row in ((), (0,), (1, 0), (0, 1, 0)):
                ends = {
                    way[-1] for way in ways
                    if is_hidden(struck_row([picture.colours[cell] for cell in way])[1:], row)
                }
                self.assertEqual(reached_cells(picture, 0, row), tuple(sorted(ends)))

    def test_a_long_way(self):
        line = Picture([0] + [1] * 699, [(cell, cell + 1) for cell in range(699)], [0])
        self.gives(WayTo(tuple(range(700))), way_to, line, 0, (1,), 699)
        self.gives(None, way_fault, line, 0, (1,), 699, WayTo(tuple(range(700))))


def naive_way_word(picture, start, row, cell, cells):
    """The words of [3.6] for a WayTo, one after another."""
    if type(cells) not in (list, tuple) or not cells:
        return "cells"
    if any(type(step) is not int or step not in range(len(picture)) for step in cells):
        return "cells"
    if cells[0] != start:
        return "mark"
    pairs = list(zip(cells, cells[1:]))
    if any((min(pair), max(pair)) not in picture.ties for pair in pairs):
        return "tie"
    if any(cells.count(step) > 1 for step in cells):
        return "twice"
    if cells[-1] != cell:
        return "end"
    colours = [colour for colour, _ in itertools.groupby(picture.colours[step] for step in cells)]
    hidden = any(tuple(colours[1:]) == chosen for chosen in itertools.combinations(row, len(colours) - 1))
    return None if hidden else "row"


def naive_moments_word(picture, start, row, cell, moments):
    """The words of [3.6] for an Unreached, one after another."""
    if type(moments) not in (list, tuple) or len(moments) != len(picture):
        return "moments"
    if any(t is not None and (type(t) is not int or not 0 <= t <= len(row)) for t in moments):
        return "moments"
    if moments[start] != 0:
        return "mark"
    for one, other in [*picture.ties, *((b, a) for a, b in picture.ties)]:
        if moments[one] is None:
            continue
        if picture.colours[one] == picture.colours[other]:
            due = [moments[one]]
        else:
            later = range(moments[one] + 1, len(row) + 1)
            due = [t for t in later if row[t - 1] == picture.colours[other]][:1]
        if due and (moments[other] is None or moments[other] > due[0]):
            return "border"
    return None if moments[cell] is None else "cell"


class Judge(Case):
    def test_other_answers(self):
        for thing in (None, (), (0, 1), PartingLine((0,)), "way", 0):
            self.gives("answer", way_fault, PICTURE, 1, ROW, 3, thing)

    def test_words_of_ways(self):
        for cells, word in (
            (None, "cells"), (5, "cells"), ("01", "cells"), ({0}, "cells"), ((), "cells"), ([], "cells"),
            ((0, 6), "cells"), ((0, -1), "cells"), ((False, 1), "cells"), ((0, True, 2, 3), "cells"), ((0, None), "cells"),
            ((1, 2, 3), "mark"), ((3,), "mark"), ((0, 2, 3), "tie"), ((0, 0, 1, 2, 3), "tie"), ((0, 5, 0), "tie"),
            ((0, 1, 0, 1, 2, 3), "twice"), ((0, 1, 0), "twice"), ((0,), "end"), ((0, 1, 2), "end"), ((0, 4), "end"),
            ((0, 1, 2, 3), None), ([0, 1, 2, 3], None),
        ):
            self.gives(word, way_fault, PICTURE, 1, ROW, 3, WayTo(cells))
        self.gives("row", way_fault, PICTURE, 1, (2, 1), 3, WayTo((0, 1, 2, 3)))
        self.gives("row", way_fault, PICTURE, 1, (), 1, WayTo((0, 1)))
        self.gives("mark", way_fault, PICTURE, 0, ROW, 3, WayTo((0, 1, 2, 3)))

    def test_words_of_moments(self):
        for moments, word in (
            (None, "moments"), (7, "moments"), ((), "moments"), ((0,) * 5, "moments"), ((0,) * 7, "moments"),
            ((0, 1, 1, None, 2, True), "moments"), ((False, None, None, None, 1, None), "moments"),
            ((0, -1, None, None, 1, None), "moments"), ((0, 3, 3, None, 1, None), "moments"),
            ((0, "1", None, None, 1, None), "moments"),
            ((1, 2, 2, None, 1, None), "mark"), ((None, 2, 2, None, 1, None), "mark"),
            ((0, 2, 2, None, None, None), "border"), ((0, 2, 2, None, 2, None), "border"),
            ((0, None, 2, None, 1, None), "border"), ((0, 2, None, None, 1, None), "border"),
            ((0, 0, 0, None, 1, None), "border"), ((0, 1, 1, None, 1, None), None),
            ((0, 2, 1, None, 1, None), "border"),
            ((0, 2, 2, None, 1, None), None), ([0, 2, 2, None, 1, None], None), ((0, 2, 2, None, 1, 0), None),
            ((0, 2, 2, None, 0, 0), None), ((0, 2, 2, 2, 1, None), "cell"), ((0, 0, 0, 0, 0, 0), "cell"),
        ):
            self.gives(word, way_fault, PICTURE, 1, (2, 1), 3, Unreached(moments))

    def test_all_small_answers(self):
        picture = Picture([0, 1, 0, 1], [(0, 1), (1, 2), (1, 3), (0, 3)], [0])
        for row in ((1, 0), (0, 1)):
            for cell in (0, 2, 3):
                for many in range(5):
                    for cells in itertools.product(range(-1, 4), repeat=many):
                        due = naive_way_word(picture, 0, row, cell, cells)
                        self.assertEqual(way_fault(picture, 0, row, cell, WayTo(cells)), due)
                for moments in itertools.product((None, 0, 1, 2, 3), repeat=4):
                    due = naive_moments_word(picture, 0, row, cell, moments)
                    self.assertEqual(way_fault(picture, 0, row, cell, Unreached(moments)), due)

    def test_only_the_right_kind_of_answer_can_pass(self):
        """A way passes just for a reached cell, and moments just for a cell that is not reached."""
        for picture in all_pictures(3, 2, [0]):
            for row in ((), (1,), (1, 0), (0, 1)):
                reached = reached_cells(picture, 0, row)
                for cell in range(3):
                    ways = [way for way in simple_ways(picture, 0)]
                    passed = [way for way in ways if way_fault(picture, 0, row, cell, WayTo(way)) is None]
                    self.assertEqual(bool(passed), cell in reached)
                    entries = (None, *range(len(row) + 1))
                    shown = [
                        moments for moments in itertools.product(entries, repeat=3)
                        if way_fault(picture, 0, row, cell, Unreached(moments)) is None
                    ]
                    self.assertEqual(bool(shown), cell not in reached)
