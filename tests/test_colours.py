"""[1.1], [0.4]: whole numbers, colours, sets of colours and rows."""

from spreadhues.colours import (
    MOST_COLOUR, check_colour, check_colours, check_row, foreign_colours, is_whole,
)
from spreadhues.errors import BadColour, BadColours, BadRow
from tests.helpers import NO_NUMBERS, NO_SEQUENCES, Case


class WholeNumbers(Case):
    def test_numbers_without_bounds(self):
        for thing in (0, 1, -1, 10 ** 300, -10 ** 299):
            self.gives(True, is_whole, thing)

    def test_true_and_false_and_other_things_are_no_numbers(self):
        for thing in NO_NUMBERS:
            self.gives(False, is_whole, thing)
            self.gives(False, is_whole, thing, 0, 5)

    def test_both_bounds_are_let(self):
        self.assertEqual([is_whole(k, 2, 4) for k in range(1, 6)], [False, True, True, True, False])

    def test_one_bound_alone(self):
        self.assertEqual([is_whole(k, 2) for k in (1, 2, 1000)], [False, True, True])
        self.assertEqual([is_whole(k, None, 2) for k in (-1000, 2, 3)], [True, True, False])
        self.assertEqual([is_whole(k, high=0) for k in (0, 1)], [True, False])
        self.assertEqual([is_whole(k, low=0) for k in (0, -1)], [True, False])


class Colours(Case):
    def test_the_greatest_colour(self):
        self.same(MOST_COLOUR, 99)

    def test_colours_from_0_to_99(self):
        for colour in range(100):
            self.gives(colour, check_colour, colour)

    def test_no_colours(self):
        for thing in (-1, 100, 10 ** 20, *NO_NUMBERS):
            self.fails(BadColour, (thing,), check_colour, thing)


class Sets(Case):
    def test_unlike_ones_ascending(self):
        self.gives((1, 3, 5), check_colours, [5, 3, 5, 1, 3])
        self.gives((), check_colours, [])
        self.gives((0, 99), check_colours, [99, 0])
        self.gives((1, 8, 33, 64, 97), check_colours, [97, 64, 33, 8, 1, 64])

    def test_twenty_entries_and_one_beyond(self):
        self.gives(tuple(range(20)), check_colours, list(range(19, -1, -1)))
        self.gives((7,), check_colours, [7] * 20)
        self.fails(BadColours, (0,), check_colours, list(range(21)))
        self.fails(BadColours, (0,), check_colours, [7] * 21)
        self.fails(BadColours, (0,), check_colours, [7] * 20 + [True])

    def test_first_entry_that_is_no_colour(self):
        for thing in (-1, 100, *NO_NUMBERS):
            self.fails(BadColours, (2,), check_colours, [3, 4, thing, -1])
            self.fails(BadColours, (0,), check_colours, [thing])

    def test_no_sequence(self):
        for thing in NO_SEQUENCES:
            self.fails(BadColours, (0,), check_colours, thing)


class Rows(Case):
    def test_rows_stay_as_they_are(self):
        self.gives((5, 3, 5, 5), check_row, [5, 3, 5, 5], 4)
        self.gives((), check_row, [], 0)

    def test_sixty_colours_if_nothing_is_told(self):
        self.gives((9,) * 60, check_row, [9] * 60)
        self.fails(BadRow, (0,), check_row, [9] * 61)

    def test_told_length_and_one_beyond(self):
        self.gives((1, 2), check_row, [1, 2], 2)
        self.fails(BadRow, (0,), check_row, [1, 2, 3], 2)
        self.fails(BadRow, (0,), check_row, [1, 2, True], 2)

    def test_first_entry_that_is_no_colour(self):
        for thing in (-1, 100, *NO_NUMBERS):
            self.fails(BadRow, (1,), check_row, [3, thing, 100], 5)

    def test_no_sequence(self):
        for thing in NO_SEQUENCES:
            self.fails(BadRow, (0,), check_row, thing, 5)

    def test_a_list_that_changes_later_has_no_effect(self):
        row = [1, 2]
        told = check_row(row)
        row[0] = 9
        self.same(told, (1, 2))


class ForeignColours(Case):
    def test_least_ones_that_are_not_used(self):
        self.gives((0, 2, 4), foreign_colours, 3, [3, 1, 1, 5])
        self.gives((0, 1), foreign_colours, 2, [])
        self.gives((), foreign_colours, 0, [1])
        self.gives((99,), foreign_colours, 1, list(range(99)))
        self.gives(tuple(range(100)), foreign_colours, 100, [])
