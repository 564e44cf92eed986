"""[3.1] to [3.4]: rows of pours into one mark."""

import itertools

from spreadhues.errors import BadColour, BadRow, BadRows
from spreadhues.rowsone import (
    PartingLine, hidden_places, is_hidden, least_equal_row, reach_lacks, rows_alike, shortest_over, struck_row,
)
from tests.helpers import NO_NUMBERS, NO_SEQUENCES, Case, all_pictures, all_rows, naive_run

WRONG_ROWS = (*NO_SEQUENCES, [0] * 41)
WRONG_COLOURS = (-1, 100, *(thing for thing in NO_NUMBERS if thing is not None))


def naive_strike(row):
    return tuple(colour for colour, _ in itertools.groupby(row))


def naive_least(row, first):
    struck = naive_strike(row)
    return struck[1:] if struck and first is not None and struck[0] == first else struck


def naive_hidden(row, within):
    return any(tuple(row) == chosen for chosen in itertools.combinations(within, len(row)))


def line_behind(line, row):
    """The colours of a line behind pours into its first cell, and whether its last cell lies in the patch then."""
    ties = [(cell, cell + 1) for cell in range(len(line) - 1)]
    _, _, colours, inside = naive_run(line, ties, [0], [(0, colour) for colour in row])[-1]
    return colours, len(line) - 1 in inside


def naive_line(first, most, colours, parts):
    """The line of fewest cells, then of least colours, that parts; None if none of so many cells does."""
    for cells in range(1, most + 1):
        for line in itertools.product(range(colours), repeat=cells):
            if first in (None, line[0]) and parts(line):
                return line
    return None


def unlike_ends(one, other):
    return lambda line: line_behind(line, one)[0][-1] != line_behind(line, other)[0][-1]


def lacks(one, other):
    return lambda line: line_behind(line, one)[1] and not line_behind(line, other)[1]


class Struck(Case):
    def test_one_colour_of_each_stretch(self):
        self.gives((1, 2, 1), struck_row, [1, 1, 2, 1, 1, 1])
        self.gives((), struck_row, [])
        self.gives((7,), struck_row, [7] * 40)
        for row in all_rows(2, 6):
            self.gives(naive_strike(row), struck_row, row)

    def test_least_equal_row(self):
        self.gives((1, 2, 1), least_equal_row, [1, 1, 2, 1])
        self.gives((2, 1), least_equal_row, [1, 1, 2, 1], 1)
        self.gives((1, 2, 1), least_equal_row, [1, 1, 2, 1], 2)
        self.gives((0, 1), least_equal_row, [0, 1], None)
        self.gives((), least_equal_row, [4, 4], 4)
        self.gives((), least_equal_row, [], 0)
        self.gives((0, 1), least_equal_row, [1, 0, 1], 1)

    def test_wrong_rows(self):
        for action in (struck_row, least_equal_row, lambda row: least_equal_row(row, 100)):
            for thing in WRONG_ROWS:
                self.fails(BadRow, (0,), action, thing)
            for thing in (-1, 100, *NO_NUMBERS):
                self.fails(BadRow, (1,), action, [0, thing, None])

    def test_wrong_first_colours(self):
        for thing in WRONG_COLOURS:
            self.fails(BadColour, (thing,), least_equal_row, [], thing)
            self.fails(BadColour, (thing,), rows_alike, [], [0], thing)
            self.fails(BadColour, (thing,), reach_lacks, [0], [0], thing)
            self.fails(BadColour, (thing,), shortest_over, [[0]], thing)

    def test_40_colours_are_let(self):
        row = [0, 1] * 20
        self.gives(tuple(row), struck_row, row)
        self.gives(tuple(row), least_equal_row, row)
        self.gives(tuple(range(40)), hidden_places, row, row)
        self.gives(True, is_hidden, row, row)
        self.gives(None, rows_alike, row, row)
        self.gives(None, reach_lacks, row, row)


class Hidden(Case):
    def test_earliest_places(self):
        self.gives((1, 2, 5), hidden_places, [1, 2, 1], [0, 1, 2, 2, 0, 1, 1])
        self.gives((0, 1), hidden_places, [5, 5], [5, 5, 5])
        self.gives(None, hidden_places, [5, 5], [5, 4])
        self.gives((), hidden_places, [], [5])
        self.gives((), hidden_places, [], [])
        self.gives(None, hidden_places, [0], [])

    def test_all_small_rows(self):
        for row in all_rows(2, 3):
            for within in all_rows(2, 5):
                due = naive_hidden(row, within)
                self.same(is_hidden(row, within), due)
                places = hidden_places(row, within)
                self.assertEqual(places is not None, due)
                if due:
                    choices = itertools.combinations(range(len(within)), len(row))
                    self.same(places, min(c for c in choices if tuple(within[k] for k in c) == row))

    def test_wrong_rows(self):
        for action in (hidden_places, is_hidden):
            for thing in WRONG_ROWS:
                self.fails(BadRow, (0,), action, thing, [0, 100])
                self.fails(BadRow, (0,), action, [0], thing)
            for thing in (-1, 100, *NO_NUMBERS):
                self.fails(BadRow, (2,), action, [0, 0, thing], [thing])
                self.fails(BadRow, (1,), action, [0, 0, 0], [0, thing, None])


class Lines(Case):
    def test_a_parting_line_is_a_result(self):
        colours = [1, 2]
        self.assertIs(PartingLine(colours).colours, colours)
        self.assertTrue(PartingLine((1, 2)) == PartingLine((1, 2)))
        self.assertFalse(PartingLine((1, 2)) != PartingLine((1, 2)))
        for other in (PartingLine((1,)), (1, 2), None):
            self.assertTrue(PartingLine((1, 2)) != other)
            self.assertFalse(PartingLine((1, 2)) == other)


class Alike(Case):
    def test_the_examples(self):
        self.gives(PartingLine((1,)), rows_alike, (), (0,))
        self.gives(PartingLine((1, 0)), rows_alike, (0, 1, 2), (1, 2))

    def test_rows_that_do_the_same(self):
        self.gives(None, rows_alike, (), ())
        self.gives(None, rows_alike, (0, 0, 1), (0, 1, 1, 1))
        self.gives(None, rows_alike, (0, 1, 2), (1, 2), 0)
        self.gives(None, rows_alike, (), (5, 5), 5)

    def test_unlike_end_colours(self):
        self.gives(PartingLine((0,)), rows_alike, (1, 2), (1, 3))
        self.gives(PartingLine((7,)), rows_alike, (1, 2), (1, 3), 7)
        self.gives(PartingLine((0,)), rows_alike, (5,), ())
        self.gives(PartingLine((3,)), rows_alike, (5,), (), 3)

    def test_told_first_colour(self):
        self.gives(PartingLine((4, 0)), rows_alike, (0, 1, 2), (1, 2), 4)
        self.gives(PartingLine((0, 1)), rows_alike, (0, 1, 0), (), 0)

    def test_the_least_of_several_lines(self):
        # behind both rows the mark is 9; colours 5 and 3 stand in one row each
        self.gives(PartingLine((0, 3)), rows_alike, (5, 9), (3, 9))
        self.gives(PartingLine((0, 2)), rows_alike, (0, 9), (3, 2, 9))
        self.gives(PartingLine((1, 0)), rows_alike, (0, 9), (9,))

    def test_wrong_rows(self):
        for action in (rows_alike, reach_lacks):
            for thing in WRONG_ROWS:
                self.fails(BadRow, (0,), action, thing, [0, 100], -1)
                self.fails(BadRow, (0,), action, [0], thing, -1)
            for thing in (-1, 100, *NO_NUMBERS):
                self.fails(BadRow, (2,), action, [0, 0, thing], [thing], -1)
                self.fails(BadRow, (1,), action, [0, 0, 0], [0, thing, None], -1)

    def test_all_small_rows(self):
        rows = list(all_rows(3, 3))
        for one in rows:
            for other in rows:
                for first in (None, 0, 2):
                    told = rows_alike(one, other, first)
                    if naive_least(one, first) == naive_least(other, first):
                        self.same(told, None)
                    else:
                        self.same(told.colours, naive_line(first, 4, 3, unlike_ends(one, other)))

    def test_longer_rows(self):
        for one, other in (
            ((0, 1, 0, 1, 0), (0, 1, 0)), ((0, 1, 2, 0, 1, 2), (0, 2, 1, 0, 2)), ((1, 0, 1, 0, 2), (0, 1, 0, 1, 2)),
            ((2, 1, 2, 1, 0, 1), (1, 2, 1, 2, 0, 1)), ((0, 1, 0, 2, 0), (0, 2, 0, 1, 0)),
        ):
            for first in (None, 0, 1, 2):
                due = naive_line(first, 6, 3, unlike_ends(one, other))
                self.gives(PartingLine(due), rows_alike, one, other, first)
                self.gives(PartingLine(due), rows_alike, other, one, first)

    def test_rows_that_part_do_so_on_all_small_pictures_only_then(self):
        rows = list(all_rows(3, 3))
        shown = {row: [] for row in rows}
        for picture in all_pictures(3, 3, [0]):
            for row in rows:
                script = [(0, colour) for colour in row]
                shown[row].append(naive_run(picture.colours, picture.ties, [0], script)[-1][2])
        for one in rows:
            for other in rows:
                if rows_alike(one, other) is None:
                    self.assertEqual(shown[one], shown[other])

    def test_40_colours(self):
        one = (0, 1) * 20
        self.gives(PartingLine((0,) + (1, 0) * 19), rows_alike, one, one[2:])
        self.gives(PartingLine((0,) + (1, 0) * 19), rows_alike, one, one[2:], 0)
        self.gives(PartingLine((1,) + (0, 1) * 19 + (0,)), rows_alike, one, one[2:], 1)


class Reach(Case):
    def test_reach_lacks(self):
        self.gives(None, reach_lacks, (0, 1), (0, 2, 1))
        self.gives(None, reach_lacks, (), ())
        self.gives(None, reach_lacks, (5,), (), 5)
        self.gives(PartingLine((0, 5)), reach_lacks, (5,), ())
        self.gives(PartingLine((1, 0)), reach_lacks, (0,), ())
        self.gives(PartingLine((0, 1, 0)), reach_lacks, (1, 0), (0, 1))
        self.gives(PartingLine((9, 1, 0)), reach_lacks, (1, 0), (0, 1), 9)
        self.gives(None, reach_lacks, (0, 1), (2, 1, 2), 0)

    def test_all_small_rows(self):
        rows = list(all_rows(3, 3))
        for one in rows:
            for other in rows:
                for first in (None, 1):
                    told = reach_lacks(one, other, first)
                    if naive_hidden(naive_least(one, first), other):
                        self.same(told, None)
                        self.assertIsNone(naive_line(first, 3, 3, lacks(one, other)))
                    else:
                        self.same(told.colours, naive_line(first, 4, 3, lacks(one, other)))

    def test_longer_rows(self):
        for one, other in (
            ((0, 1, 0, 1, 0), (1, 0, 1, 2, 1)), ((0, 1, 2, 0, 1), (0, 2, 1, 0, 2, 1)), ((1, 0, 2, 1), (2, 1, 0, 1, 2, 0)),
            ((0, 1, 2, 0, 2), (2, 0, 1, 0, 2, 1)),
        ):
            for first in (None, 0, 1, 2):
                due = naive_line(first, 5, 3, lacks(one, other))
                self.gives(None if due is None else PartingLine(due), reach_lacks, one, other, first)


def naive_shortest(rows, first, colours):
    least = [naive_least(row, first) for row in rows]
    return next(row for row in all_rows(colours, 12) if all(naive_hidden(part, row) for part in least))


class Shortest(Case):
    def test_shortest_over(self):
        self.gives((0, 1, 2), shortest_over, [(0, 2), (1, 2), (0, 1)])
        self.gives((0, 1, 0), shortest_over, [(1, 0), (0, 1)])
        self.gives((), shortest_over, [(), (3, 3)], 3)
        self.gives((3,), shortest_over, [(), (3, 3)])
        self.gives((5, 6), shortest_over, [[5, 5, 6]])

    def test_all_small_rows(self):
        rows = list(all_rows(3, 3))
        for one in rows[::2]:
            for other in rows[::3]:
                for first in (None, 0):
                    self.same(shortest_over([one, other], first), naive_shortest([one, other], first, 3))

    def test_three_rows(self):
        rows = [(0, 1, 0, 2), (2, 1, 1, 0), (1, 2, 0, 1), (0, 0, 2, 1), (2, 0, 2)]
        for chosen in itertools.product(rows, repeat=3):
            for first in (None, 2):
                self.same(shortest_over(chosen, first), naive_shortest(chosen, first, 3))

    def test_rows_of_twelve_colours(self):
        rows = [(0, 1, 2) * 4, (2, 1, 0) * 4, (1, 2, 0) * 4]
        told = shortest_over(rows)
        for row in rows:
            self.assertTrue(is_hidden(row, told))
        self.gives(tuple(range(36)), shortest_over, [range_row(0), range_row(12), range_row(24)])

    def test_wrong_rows(self):
        for thing in (*NO_SEQUENCES, [], [[0]] * 4):
            self.fails(BadRows, (0,), shortest_over, thing, 100)
        for thing in (*NO_SEQUENCES, [0] * 13, *([0, wrong] for wrong in (-1, 100, *NO_NUMBERS))):
            self.fails(BadRows, (0,), shortest_over, [thing], 100)
            self.fails(BadRows, (1,), shortest_over, [[0], thing, None], 100)
        self.gives((0,), shortest_over, [[0] * 12])

    def test_what_is_reached_on_all_small_pictures(self):
        rows = [(0, 1, 2), (2, 1), (1, 0)]
        over = shortest_over(rows)
        for picture in all_pictures(3, 3, [0]):
            def reached(row):
                return naive_run(picture.colours, picture.ties, [0], [(0, colour) for colour in row])[-1][3]
            for row in rows:
                self.assertTrue(reached(row) <= reached(over))


def range_row(start):
    return list(range(start, start + 12))
