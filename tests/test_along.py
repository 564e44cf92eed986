"""[1.5]: colours renamed and marks exchanged, in rows, pictures and scripts."""

import itertools

from spreadhues.along import exchanged_marks, exchanged_script, renamed_colours, renamed_row, renamed_script
from spreadhues.errors import BadNaming, BadOrder, BadRow
from spreadhues.pictures import Picture
from spreadhues.running import marks_seen
from tests.helpers import NO_NUMBERS, NO_SEQUENCES, Case, all_scripts

PICTURE = Picture([0, 1, 2, 1], [(0, 1), (1, 2), (2, 3)], [3, 0, 2])
SCRIPT = ((0, 1), (2, 2), (1, 0))


def rows_of(thing):
    """The three functions that rename, each with the colours 0 1 2 1, and what it returns for a row."""
    yield renamed_row, [0, 1, 2, 1], lambda row: row
    yield renamed_colours, Picture([0, 1, 2, 1], [(0, 1)], [3]), lambda row: Picture(row, [(0, 1)], [3])
    yield renamed_script, ((0, 0), (1, 1), (0, 2), (3, 1)), lambda row: tuple(zip((0, 1, 0, 3), row))


class Renaming(Case):
    def test_colours_that_are_not_named_stay(self):
        for action, given, made in rows_of(self):
            self.gives(made((0, 7, 2, 7)), action, given, [(1, 7)])
            self.gives(made((0, 1, 2, 1)), action, given, [])
            self.gives(made((0, 1, 2, 1)), action, given, [(50, 60)])

    def test_colours_change_places(self):
        for action, given, made in rows_of(self):
            self.gives(made((1, 0, 2, 0)), action, given, [(0, 1), (1, 0)])
            self.gives(made((1, 2, 0, 2)), action, given, [(0, 1), (1, 2), (2, 0)])

    def test_old_and_new_may_be_equal(self):
        for action, given, made in rows_of(self):
            self.gives(made((0, 1, 2, 1)), action, given, [(1, 1), (2, 2)])

    def test_no_sequence(self):
        for action, given, made in rows_of(self):
            for thing in NO_SEQUENCES:
                self.fails(BadNaming, (0,), action, given, thing)

    def test_first_wrong_couple(self):
        wrong = [(1,), (1, 2, 3), (), "12", {1, 2}, None, 1, (3, 5), (7, 4), (3, 4), (-1, 7), (7, 100)]
        wrong += [(thing, 9) for thing in NO_NUMBERS] + [(9, thing) for thing in NO_NUMBERS]
        for action, given, made in rows_of(self):
            for couple in wrong:
                self.fails(BadNaming, (1,), action, given, [(3, 4), couple, None])
            self.fails(BadNaming, (2,), action, given, [(3, 4), (5, 6), (3, 4)])

    def test_a_colour_would_become_one_with_another(self):
        for action, given, made in rows_of(self):
            self.fails(BadNaming, (1,), action, given, [(1, 2)])
            self.fails(BadNaming, (3,), action, given, [(1, 5), (50, 51), (52, 0)])
            self.fails(BadNaming, (2,), action, given, [(50, 2), (51, 52)])
            self.fails(BadNaming, (2,), action, given, [(50, 2), (51, 52), (51, 53)])

    def test_a_naming_of_all_colours(self):
        pairs = [(colour, 99 - colour) for colour in range(100)]
        for action, given, made in rows_of(self):
            self.gives(made((99, 98, 97, 98)), action, given, pairs)
            self.fails(BadNaming, (100,), action, given, pairs + [(0, 0)])

    def test_wrong_rows_come_first(self):
        self.gives((1,) * 60, renamed_row, [0] * 60, [(0, 1)])
        self.gives((), renamed_row, [], [(0, 1)])
        for thing in (*NO_SEQUENCES, [0] * 61):
            self.fails(BadRow, (0,), renamed_row, thing, None)
        for thing in (-1, 100, *NO_NUMBERS):
            self.fails(BadRow, (1,), renamed_row, [0, thing, thing], None)

    def test_an_empty_script(self):
        self.gives((), renamed_script, (), [(0, 1)])

    def test_the_picture_stays_else(self):
        told = renamed_colours(PICTURE, [(1, 9)])
        self.same((told.colours, told.ties, told.marks), ((0, 9, 2, 9), PICTURE.ties, PICTURE.marks))
        self.same(PICTURE.colours, (0, 1, 2, 1))


class Exchanging(Case):
    def test_mark_k_is_the_mark_that_is_told(self):
        due = Picture(PICTURE.colours, PICTURE.ties, [0, 2, 3])
        self.gives(due, exchanged_marks, PICTURE, [1, 2, 0])
        self.gives(PICTURE, exchanged_marks, PICTURE, [0, 1, 2])

    def test_the_script_pours_into_the_same_cells(self):
        self.gives(((2, 1), (1, 2), (0, 0)), exchanged_script, SCRIPT, [1, 2, 0])
        self.gives((), exchanged_script, (), [0])
        self.gives(((0, 5),), exchanged_script, ((3, 5),), [3, 1, 2, 0])
        for order in itertools.permutations(range(3)):
            told = exchanged_marks(PICTURE, order)
            for (mark, _), (moved, _) in zip(SCRIPT, exchanged_script(SCRIPT, order)):
                self.same(told.marks[moved], PICTURE.marks[mark])

    def test_no_order_of_the_pictures_marks(self):
        wrong = (*NO_SEQUENCES, [], [0, 1], [0, 1, 2, 3], [0, 1, 1], [0, 1, 3], [0, 1, -1])
        for order in (*wrong, *([0, 2, thing] for thing in NO_NUMBERS)):
            self.fails(BadOrder, (order,), exchanged_marks, PICTURE, order)
        self.fails(BadOrder, ([False],), exchanged_marks, Picture([0], [], [0]), [False])
        self.fails(BadOrder, ([0, True],), exchanged_marks, Picture([0, 0], [], [0, 1]), [0, True])

    def test_no_order_of_its_own_length(self):
        wrong = (*NO_SEQUENCES, [], [0, 1, 2, 3, 4], [1], [0, 0], [0, 1, 3], [0, 1, -1])
        for order in (*wrong, *([0, 2, thing] for thing in NO_NUMBERS)):
            self.fails(BadOrder, (order,), exchanged_script, (), order)
        self.fails(BadOrder, ([False],), exchanged_script, ((0, 0),), [False])
        self.gives(((3, 1),), exchanged_script, ((0, 1),), [1, 2, 3, 0])


class LedAlong(Case):
    def test_what_a_script_shows_is_led_along(self):
        picture = Picture([0, 1, 2, 1], [(0, 1), (1, 2), (2, 3)], [3, 0])
        pairs = [(0, 2), (2, 0), (1, 5)]
        for script in all_scripts(2, 3, 3):
            seen = marks_seen(picture, script)
            renamed = marks_seen(renamed_colours(picture, pairs), renamed_script(script, pairs))
            self.same(renamed, tuple(renamed_row(row, pairs) for row in seen))
            exchanged = marks_seen(exchanged_marks(picture, [1, 0]), exchanged_script(script, [1, 0]))
            self.same(exchanged, tuple(row[::-1] for row in seen))
