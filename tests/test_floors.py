"""[7.3]: floor, greedy row, fewest row."""

import itertools
import random

from spreadhues.errors import BadRow, NoMark, NotJoined, TooMany
from spreadhues.everydepth import every_row
from spreadhues.floors import Measures, fewest_row, floor_of, greedy_row, joining_head, measures_of
from spreadhues.pictures import Picture
from spreadhues.reaching import depth_of
from spreadhues.squares import line_picture
from tests.helpers import (
    NO_NUMBERS, NO_SEQUENCES, Case, all_pictures, chance_picture, line_of_patches, naive_holds, naive_patch,
    naive_poured,
)

# mark 1 stands in the middle of a line
LINE = Picture([0, 1, 2, 1, 3], [(0, 1), (1, 2), (2, 3), (3, 4)], [0, 2])


def is_joined(picture):
    return len(naive_patch([0] * len(picture), picture.ties, 0)) == len(picture)


def naive_behind(picture, mark, row):
    colours = picture.colours
    for colour in row:
        colours = naive_poured(colours, picture.ties, picture.marks, (mark, colour))
    return colours


def naive_head(picture, mark, row):
    for k in range(len(row) + 1):
        if naive_holds(naive_behind(picture, mark, row[:k]), picture.ties, picture.marks, ("all one",)):
            return k
    return None


def naive_fewest(picture, mark):
    """The shortest, then least row of the picture's colours, all rows gone through."""
    for many in itertools.count():
        for row in itertools.product(sorted(set(picture.colours)), repeat=many):
            if naive_head(picture, mark, row) is not None:
                return row


def naive_greedy(picture, mark):
    colours, row = picture.colours, []
    while True:
        inside = naive_patch(colours, picture.ties, picture.marks[mark])
        grown = {}
        for colour in sorted(set(picture.colours)):
            behind = naive_poured(colours, picture.ties, picture.marks, (mark, colour))
            grown[colour] = len(naive_patch(behind, picture.ties, picture.marks[mark])) - len(inside)
        if max(grown.values()) == 0:
            return tuple(row)
        row.append(min(colour for colour in grown if grown[colour] == max(grown.values())))
        colours = naive_poured(colours, picture.ties, picture.marks, (mark, row[-1]))


class Floor(Case):
    def test_examples(self):
        self.gives(4, floor_of, LINE, 0)
        self.gives(3, floor_of, LINE, 1)
        self.gives(0, floor_of, Picture([5], [], [0]), 0)
        # the colour of the mark's patch counts where it stands outside of it
        self.gives(2, floor_of, Picture([0, 1, 0, 1], [(0, 1), (1, 2), (0, 3)], [0]), 0)
        self.gives(3, floor_of, Picture([0, 1, 2, 3], [(0, 1), (0, 2), (0, 3)], [0]), 0)

    def test_errors(self):
        apart = Picture([0, 1, 0, 1], [(0, 1), (2, 3)], [0, 3])
        for action in (floor_of, fewest_row, measures_of):
            self.fails(NotJoined, (2,), action, apart, 0)
            self.fails(NotJoined, (0,), action, apart, 1)
        for action in (floor_of, greedy_row, fewest_row, measures_of, lambda *given: joining_head(*given, None)):
            for thing in (-1, 2, *NO_NUMBERS):
                self.fails(NoMark, (thing,), action, apart, thing)


class Greedy(Case):
    def test_examples(self):
        self.gives((1, 2, 1, 3), greedy_row, LINE, 0)
        self.gives((1, 0, 3), greedy_row, LINE, 1)
        self.gives((), greedy_row, Picture([0, 1], [], [0]), 0)
        # five cells of colour 2 against two of colour 1
        picture = Picture([0, 1, 2, 2, 1], [(0, 1), (0, 2), (2, 3), (0, 4)], [0])
        self.gives((1, 2), greedy_row, picture, 0)
        self.gives((2, 1), greedy_row, Picture([0, 1, 2, 2], [(0, 1), (0, 2), (2, 3)], [0]), 0)

    def test_more_than_the_fewest(self):
        # the greedy row first takes two cells of colour 1, and then has to come back to it
        picture = Picture([0, 1, 1, 2, 1], [(0, 1), (0, 2), (0, 3), (3, 4)], [0])
        self.gives((1, 2, 1), greedy_row, picture, 0)
        self.gives((2, 1), fewest_row, picture, 0)
        self.assertEqual(measures_of(picture, 0), Measures(2, 2, 3, 4))
        self.assertEqual(measures_of(picture, 0).loss, 1)

    def test_it_ends_where_no_cell_outside_is_tied(self):
        self.gives((1,), greedy_row, Picture([0, 1, 2], [(0, 1)], [0]), 0)

    def test_the_greatest_picture(self):
        row = [0, 1] * 350
        self.gives(tuple(row[1:]), greedy_row, line_picture(row), 0)
        star = Picture([0] + [1 + k % 99 for k in range(699)], [(0, k) for k in range(1, 700)], [0])
        self.gives(tuple([*range(1, 7), *range(7, 100)]), greedy_row, star, 0)


class Head(Case):
    def test_examples(self):
        self.gives(4, joining_head, LINE, 0, (1, 2, 1, 3, 5))
        self.gives(None, joining_head, LINE, 0, (1, 2, 1))
        self.gives(0, joining_head, Picture([0, 0], [(0, 1)], [0]), 0, (1, 2))
        self.gives(None, joining_head, Picture([0, 0], [], [0]), 0, (0,))
        self.gives(6, joining_head, LINE, 1, (5, 5, 1, 5, 0, 3))

    def test_rows(self):
        self.gives(119, joining_head, line_picture([0, 1] * 60), 0, (1, 0) * 60)
        for thing in (*NO_SEQUENCES, (0,) * 121):
            self.fails(BadRow, (0,), joining_head, LINE, 0, thing)
        for thing in (-1, 100, *NO_NUMBERS):
            self.fails(BadRow, (1,), joining_head, LINE, 0, (0, thing))

    def test_all_small_pictures(self):
        for picture in all_pictures(3, 2, [1]):
            for many in range(4):
                for row in itertools.product(range(3), repeat=many):
                    self.same(joining_head(picture, 0, row), naive_head(picture, 0, row))


class Fewest(Case):
    def test_examples(self):
        self.gives((1, 2, 1, 3), fewest_row, LINE, 0)
        self.gives((1, 0, 3), fewest_row, LINE, 1)
        self.gives((), fewest_row, Picture([7, 7], [(0, 1)], [0]), 0)

    def test_all_small_pictures(self):
        for picture in all_pictures(4, 2, [3, 1]):
            if is_joined(picture):
                for mark in range(2):
                    self.check(picture, mark)

    def test_larger_pictures(self):
        chance = random.Random(73)
        many = 0
        while many < 60:
            picture = chance_picture(chance, chance.randrange(4, 8), 3, 2, 0.4)
            if is_joined(picture):
                self.check(picture, many % 2)
                many += 1

    def check(self, picture, mark):
        row, greedy = fewest_row(picture, mark), greedy_row(picture, mark)
        self.same(row, naive_fewest(picture, mark))
        self.same(greedy, naive_greedy(picture, mark))
        measures = measures_of(picture, mark)
        always = depth_of(picture, mark) * (len(set(picture.colours)) - 1)
        self.same(vars(measures), {
            "floor": floor_of(picture, mark), "fewest": len(row), "greedy": len(greedy), "always": always,
        })
        self.same(measures.loss, len(greedy) - len(row))
        self.assertTrue(measures.floor <= measures.fewest <= min(measures.greedy, measures.always))
        outside = set(range(len(picture))) - naive_patch(picture.colours, picture.ties, picture.marks[mark])
        tints = {picture.colours[cell] for cell in outside}
        self.same(measures.floor, max(depth_of(picture, mark), len(tints)))

    def test_rows_for_every_picture_are_no_shorter(self):
        """A row of [3.8] makes the picture one patch, and is at least as long as the fewest one."""
        for picture in all_pictures(4, 3, [0]):
            if is_joined(picture):
                depth = depth_of(picture, 0)
                head = joining_head(picture, 0, every_row(3, depth, picture.colours[0]))
                self.assertLessEqual(len(fewest_row(picture, 0)), head)

    def test_10_and_11_patches(self):
        self.gives((1, 2, 0) * 3, fewest_row, line_of_patches(10, 3, [0]), 0)
        for picture in (line_of_patches(11, 3, [0]), Picture(list(range(11)), [(0, k) for k in range(1, 11)], [3])):
            for action in (fewest_row, measures_of):
                self.fails(TooMany, (10,), action, picture, 0)
        # whether all is joined is asked first
        self.fails(NotJoined, (1,), fewest_row, Picture([0] * 11, [], [0]), 0)

    def test_10_patches_of_all_kinds(self):
        chance = random.Random(75)
        for _ in range(40):
            ties = [(chance.randrange(k), k) for k in range(1, 10)]
            more = [tie for tie in itertools.combinations(range(10), 2) if chance.random() < 0.15]
            picture = Picture([k if chance.random() < 0.3 else k % 3 for k in range(10)], ties + more, [0])
            row = fewest_row(picture, 0)
            self.assertEqual(joining_head(picture, 0, row), len(row))
            measures = measures_of(picture, 0)
            self.assertTrue(measures.floor <= measures.fewest <= min(measures.greedy, measures.always))
