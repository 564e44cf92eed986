"""[7.2]: choices and closed standings."""

import itertools
import random

from spreadhues.errors import BadChoice, BadPicture, BadPour, TooMany
from spreadhues.pictures import Picture
from spreadhues.running import poured
from spreadhues.standings import check_choice, closed_standings, standing_behind
from tests.helpers import (
    NO_NUMBERS, NO_SEQUENCES, Case, all_pictures, chance_picture, line_of_patches, naive_poured,
)

PICTURE = Picture([0, 1, 0, 2], [(0, 1), (1, 2)], [0, 2, 3])


def naive_closed(picture, chosen, colours):
    """The closed standings, from runs cell by cell."""
    found, waiting = set(), [picture.colours]
    while waiting:
        standing = waiting.pop()
        if standing not in found:
            found.add(standing)
            waiting += [
                naive_poured(standing, picture.ties, picture.marks, pour)
                for pour in itertools.product(chosen, colours)
            ]
    return tuple(sorted(found))


class Choice(Case):
    def test_what_is_returned(self):
        self.gives(((0,), (5,)), check_choice, PICTURE, (0,), (5,))
        self.gives(((1, 2), (0, 3, 7, 99)), check_choice, PICTURE, (2, 1), (7, 0, 99, 3))

    def test_marks(self):
        wrong = [*NO_SEQUENCES, (), (0, 1, 2), (0, 0), (3,), (-1,), (0, 3), *((thing,) for thing in NO_NUMBERS)]
        for thing in wrong:
            for action in (check_choice, closed_standings):
                self.fails(BadChoice, ("marks",), action, PICTURE, thing, None)
        self.fails(BadChoice, ("marks",), check_choice, PICTURE, (0, False), (0,))

    def test_colours(self):
        wrong = [*NO_SEQUENCES, (), (0, 1, 2, 3, 4), (0, 0), (100,), (-1,), *((0, thing) for thing in NO_NUMBERS)]
        for thing in wrong:
            for action in (check_choice, closed_standings):
                self.fails(BadChoice, ("colours",), action, PICTURE, (0,), thing)


class Behind(Case):
    def test_examples(self):
        self.gives((1, 1, 0, 2), standing_behind, PICTURE, (0, 1, 0, 2), (0, 1))
        self.gives((5, 5, 5, 2), standing_behind, PICTURE, (0, 0, 0, 2), (1, 5))

    def test_any_standing(self):
        chance = random.Random(7)
        for _ in range(150):
            picture = chance_picture(chance, chance.randrange(1, 7), 3, 1, 0.4)
            standing = tuple(chance.randrange(3) for _ in range(len(picture)))
            pour = (0, chance.randrange(4))
            self.gives(
                naive_poured(standing, picture.ties, picture.marks, pour), standing_behind, picture, standing, pour,
            )

    def test_errors(self):
        for thing in (*NO_SEQUENCES, (), (0,) * 3, (0,) * 5):
            self.fails(BadPicture, (0, "cells"), standing_behind, PICTURE, thing, None)
        for thing in (-1, 100, *NO_NUMBERS):
            self.fails(BadPicture, (2, "colour"), standing_behind, PICTURE, (0, 0, thing, None), None)
            self.fails(BadPour, ("colour",), standing_behind, PICTURE, (0,) * 4, (0, thing))
        for thing in (-1, 3, *NO_NUMBERS):
            self.fails(BadPour, ("mark",), standing_behind, PICTURE, (0,) * 4, (thing, 100))
        for thing in (*NO_SEQUENCES, (), (0,), (0, 0, 0)):
            self.fails(BadPour, ("pour",), standing_behind, PICTURE, (0,) * 4, thing)


class Closed(Case):
    def test_examples(self):
        self.gives(((0,), (5,)), closed_standings, Picture([0], [], [0]), (0,), (5,))
        self.gives(((0,),), closed_standings, Picture([0], [], [0]), (0,), (0,))
        self.gives(((0, 1), (1, 1), (2, 1), (2, 2)), closed_standings, Picture([0, 1], [(0, 1)], [0]), (0,), (1, 2))

    def test_all_small_pictures(self):
        for picture in all_pictures(3, 3, [2, 0]):
            for chosen in ((0,), (1,), (0, 1)):
                for colours in ((0,), (1, 2), (2, 3, 0)):
                    due = naive_closed(picture, chosen, colours)
                    self.gives(due, closed_standings, picture, chosen, colours)
                    self.same(closed_standings(picture, chosen[::-1], colours[::-1]), due)

    def test_larger_pictures(self):
        chance = random.Random(72)
        for _ in range(40):
            picture = chance_picture(chance, chance.randrange(3, 8), 3, 2, 0.4)
            colours = chance.sample(range(4), chance.randrange(1, 4))
            due = naive_closed(picture, (0, 1), colours)
            self.same(closed_standings(picture, (1, 0), colours), due)
            self.assertIn(picture.colours, due)
            for standing in due:
                for pour in itertools.product((0, 1), colours):
                    self.assertIn(poured(Picture(standing, picture.ties, picture.marks), pour).colours, due)

    def test_marks_of_one_patch(self):
        picture = Picture([0, 0, 1], [(0, 1), (1, 2)], [0, 1])
        self.same(closed_standings(picture, (0, 1), (1,)), ((0, 0, 1), (1, 1, 1)))

    def test_10_and_11_patches(self):
        # in a line, so many patches of either colour but that of the next patch, at last of each colour
        self.assertEqual(len(closed_standings(line_of_patches(10, 3, [0]), (0,), (0, 1, 2))), 9 * 2 + 3)
        for thing in ((0,), (0, 1)):
            self.fails(TooMany, (10,), closed_standings, line_of_patches(11, 3, [0, 21]), thing, (0, 1))
        # 10 patches of many cells
        cells = Picture([cell // 70 for cell in range(700)], [(cell, cell + 1) for cell in range(699)], [0, 699])
        standings = closed_standings(cells, (0, 1), (1, 2, 3, 8))
        self.assertTrue(all(len(standing) == 700 for standing in standings))
        self.fails(TooMany, (10,), closed_standings, Picture([0] * 11, [], [0]), (0,), (0,))
