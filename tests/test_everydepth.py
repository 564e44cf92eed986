"""[3.7] to [3.9]: rows that make every picture of so many colours and such a depth one patch."""

import itertools
import math

from spreadhues.errors import BadCount, BadRow
from spreadhues.everydepth import (
    all_every_rows, count_every_rows, count_lacking, every_length, every_row, held_depth, lacking_row, worst_way,
)
from spreadhues.pictures import Picture
from spreadhues.reaching import makes_one
from tests.helpers import NO_NUMBERS, NO_SEQUENCES, Case, all_rows

COUNTS = (every_length, every_row, all_every_rows, count_every_rows)
WRONG_FIRSTS = tuple(thing for thing in NO_NUMBERS if thing is not None)


def firsts_of(colours):
    return (None, *range(colours))


def struck_rows(colours, depth, first):
    """All struck rows of so many colours that do not begin with the first one, ascending."""
    for row in itertools.product(range(colours), repeat=depth):
        if all(one != other for one, other in zip(row, row[1:])) and (not row or first is None or row[0] != first):
            yield row


def is_within(row, within):
    rest = iter(within)
    return all(colour in rest for colour in row)


def lacking(row, colours, depth, first):
    return [way for way in struck_rows(colours, depth, first) if not is_within(way, row)]


def does_all(row, colours, depth, first):
    return not lacking(row, colours, depth, first)


class Counts(Case):
    def wrong(self, action, *ahead):
        for thing in (1, 11, -1, *NO_NUMBERS):
            self.fails(BadCount, ("colours",), action, *ahead, thing, -1, -1)
        for thing in (-1, 13, *NO_NUMBERS):
            self.fails(BadCount, ("depth",), action, *ahead, 3, thing, -1)
        for thing in (-1, 3, *WRONG_FIRSTS):
            self.fails(BadCount, ("first",), action, *ahead, 3, 12, thing)

    def test_colours_depth_first(self):
        for action in COUNTS:
            self.wrong(action)
        for action in (lacking_row, count_lacking):
            self.wrong(action, [0])

    def test_without_a_depth(self):
        for action in (held_depth, worst_way):
            for thing in (1, 11, *NO_NUMBERS):
                self.fails(BadCount, ("colours",), action, [0], thing, -1)
            for thing in (-1, 3, *WRONG_FIRSTS):
                self.fails(BadCount, ("first",), action, [0], 3, thing)

    def test_wrong_rows_come_first(self):
        for action in (held_depth, worst_way, lambda row, colours: lacking_row(row, colours, -1),
                       lambda row, colours: count_lacking(row, colours, -1)):
            for thing in (*NO_SEQUENCES, [0] * 121):
                self.fails(BadRow, (0,), action, thing, 0)
            for thing in (-1, 100, *NO_NUMBERS):
                self.fails(BadRow, (1,), action, [0, thing, None], 0)

    def test_least_and_greatest_counts(self):
        self.gives(12, every_length, 2, 12, 1)
        self.gives(109, every_length, 10, 12)
        self.gives(0, every_length, 10, 0, 9)
        self.gives(119, held_depth, (0, 1) * 60, 2)
        self.gives(119, held_depth, (0, 1) * 60, 2, 0)
        self.gives(120, held_depth, (0, 1) * 60, 2, 1)


class EveryRow(Case):
    def test_lengths(self):
        self.gives(0, every_length, 3, 0)
        self.gives(0, every_length, 3, 0, 1)
        self.gives(3, every_length, 3, 1)
        self.gives(2, every_length, 3, 1, 1)
        self.gives(9, every_length, 3, 4)
        self.gives(8, every_length, 3, 4, 0)

    def test_rows(self):
        self.gives((), every_row, 3, 0)
        self.gives((0, 1, 2, 0, 1), every_row, 3, 2)
        self.gives((2, 0, 1, 2), every_row, 3, 2, 1)
        self.gives((0, 1), every_row, 3, 1, 2)
        self.gives((1, 2), every_row, 3, 1, 0)

    def test_every_row_does_it_and_no_shorter_one(self):
        for colours, depths in ((2, range(7)), (3, range(5)), (4, range(4)), (5, range(3))):
            for depth in depths:
                for first in firsts_of(colours):
                    row = every_row(colours, depth, first)
                    self.same(len(row), every_length(colours, depth, first))
                    self.assertTrue(does_all(row, colours, depth, first))
        for colours, depth in ((2, 1), (2, 2), (2, 3), (3, 1), (3, 2), (4, 1)):
            for first in firsts_of(colours):
                for row in itertools.product(range(colours), repeat=every_length(colours, depth, first) - 1):
                    self.assertFalse(does_all(row, colours, depth, first))

    def test_all_every_rows(self):
        for colours, depth in ((2, 0), (2, 1), (2, 2), (2, 4), (3, 0), (3, 1), (3, 2), (4, 1)):
            for first in firsts_of(colours):
                length = every_length(colours, depth, first)
                due = tuple(
                    row for row in itertools.product(range(colours), repeat=length)
                    if does_all(row, colours, depth, first)
                )
                self.yields(due, all_every_rows, colours, depth, first)
                self.gives(len(due), count_every_rows, colours, depth, first)
                self.assertIn(every_row(colours, depth, first), due)

    def test_depth_3_of_3_colours(self):
        for first in firsts_of(3):
            rows = list(all_every_rows(3, 3, first))
            self.assertEqual(len(rows), count_every_rows(3, 3, first))
            self.assertEqual(rows, sorted(set(rows)))
            for row in rows:
                self.assertTrue(does_all(row, 3, 3, first))

    def test_the_first_ones_come_at_once(self):
        rows = all_every_rows(10, 12)
        told = [next(rows) for _ in range(3)]
        least = tuple(range(10))
        for block in range(11):
            least += tuple(colour for colour in range(10) if colour != least[-1])
        self.same(told[0], least)
        self.same(told[1], least[:-2] + (least[-1], least[-2]))
        self.assertTrue(told[1] < told[2])
        told = next(all_every_rows(10, 12, 0))
        self.same(told[:12], (1, 2, 3, 4, 5, 6, 7, 8, 9, 0, 1, 2))

    def test_great_counts_come_at_once(self):
        self.gives(math.factorial(10) * math.factorial(9) ** 11, count_every_rows, 10, 12)
        self.gives(math.factorial(9) ** 12, count_every_rows, 10, 12, 4)
        self.gives(2, count_every_rows, 2, 12)
        self.gives(1, count_every_rows, 2, 12, 0)
        self.gives(1, count_every_rows, 10, 0)

    def test_every_picture_becomes_one_patch(self):
        """On lines of the depth, which are the pictures that ask most, the row makes one patch."""
        for colours, depth in ((2, 3), (3, 2), (3, 3)):
            for first in range(colours):
                for way in struck_rows(colours, depth, first):
                    line = Picture((first,) + way, [(cell, cell + 1) for cell in range(depth)], [0])
                    self.assertTrue(makes_one(line, 0, every_row(colours, depth, first)))
                    self.assertTrue(makes_one(line, 0, every_row(colours, depth)))


class Held(Case):
    def test_held_depth(self):
        self.gives(0, held_depth, (), 2)
        self.gives(0, held_depth, (0,), 2)
        self.gives(1, held_depth, (0,), 2, 1)
        self.gives(1, held_depth, (0, 1), 2)
        self.gives(2, held_depth, (0, 1, 2, 0, 1), 3)
        self.gives(13, held_depth, (0, 1) * 7, 2)
        self.gives(2, held_depth, (0, 77, 1, 2, 50, 0, 1), 3)

    def test_worst_way(self):
        self.gives((0,), worst_way, (), 2)
        self.gives((1,), worst_way, (), 2, 0)
        self.gives((1,), worst_way, (0, 2), 3)
        self.gives((2, 1, 0), worst_way, (0, 1, 2, 0, 1), 3)
        self.gives((1,), worst_way, (5, 0), 3)

    def test_all_small_rows(self):
        for colours, most in ((2, 7), (3, 5)):
            for row in all_rows(colours, most):
                for first in firsts_of(colours):
                    due = next(d for d in range(9) if not does_all(row, colours, d + 1, first))
                    self.same(held_depth(row, colours, first), due)
                    way = worst_way(row, colours, first)
                    self.assertEqual(way, naive_worst(row, colours, first))
                    self.assertEqual(len(way), due + 1)
                    self.assertIn(way, list(struck_rows(colours, due + 1, first)))
                    self.assertFalse(is_within(way, row))

    def test_120_colours(self):
        row = tuple(range(10)) * 12
        self.same(held_depth(row, 10), next(d for d in range(40) if (d + 1) * 9 + 1 > 120))
        self.same(len(worst_way(row, 10)), held_depth(row, 10) + 1)


def naive_worst(row, colours, first):
    """The way of [3.9], each time by looking for all colours from the place on."""
    way, place, last = [], 0, first
    while True:
        comes = []
        for colour in range(colours):
            if colour != last:
                later = [at for at in range(place, len(row)) if row[at] == colour]
                comes.append((later[0] if later else len(row), -colour))
        latest, colour = max(comes)
        way.append(-colour)
        if latest == len(row):
            return tuple(way)
        place, last = latest + 1, -colour


class Lacking(Case):
    def test_lacking_row(self):
        self.gives((0, 1), lacking_row, (1, 0), 2, 2)
        self.gives((1, 0), lacking_row, (0, 1), 2, 2)
        self.gives(None, lacking_row, (0, 1, 0), 2, 2)
        self.gives(None, lacking_row, (), 2, 0)
        self.gives((0, 1, 0, 1), lacking_row, (), 3, 4)
        self.gives((1, 0, 1, 0), lacking_row, (), 3, 4, 0)

    def test_count_lacking(self):
        self.gives(0, count_lacking, (), 5, 0)
        self.gives(5, count_lacking, (), 5, 1)
        self.gives(4, count_lacking, (), 5, 1, 3)
        self.gives(3, count_lacking, (0, 7, 1), 5, 1)

    def test_all_small_rows(self):
        for colours, most, depths in ((2, 5, range(6)), (3, 4, range(4))):
            for row in all_rows(colours, most):
                for first in firsts_of(colours):
                    for depth in depths:
                        due = lacking(row, colours, depth, first)
                        self.same(lacking_row(row, colours, depth, first), due[0] if due else None)
                        self.same(count_lacking(row, colours, depth, first), len(due))

    def test_longer_rows(self):
        for row in ((0, 1, 2, 3, 0, 2, 1, 3, 0), (3, 2, 1, 0, 5, 1, 2, 3), (0, 1, 2, 0, 1, 2, 3, 3, 0, 1)):
            for first in firsts_of(4):
                for depth in range(5):
                    due = lacking(row, 4, depth, first)
                    self.gives(due[0] if due else None, lacking_row, row, 4, depth, first)
                    self.gives(len(due), count_lacking, row, 4, depth, first)

    def test_great_numbers_come_at_once(self):
        self.gives(10 * 9 ** 11, count_lacking, (), 10, 12)
        self.gives(9 ** 12, count_lacking, (50,) * 120, 10, 12, 0)
        self.gives(0, count_lacking, every_row(10, 12), 10, 12)
        self.gives(None, lacking_row, every_row(10, 12), 10, 12)
        short = every_row(10, 12)[:-1]
        self.assertEqual(len(short), 108)
        told = lacking_row(short, 10, 12)
        self.assertFalse(is_within(told, short))
        self.assertTrue(0 < count_lacking(short, 10, 12) < 9 ** 11)
        self.gives(10 * 9 ** 11 - 2, count_lacking, (0, 1) * 60, 10, 12)
