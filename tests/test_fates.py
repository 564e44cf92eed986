"""[6.2] to [6.4]: told courses, fates, and the whole picture."""

import itertools
import random

from spreadhues.courses import courses_of
from spreadhues.errors import BadCourse, BadFate, BadFirsts, BadScript, BadTold, TooMany
from spreadhues.fates import (
    MOST_FATES, check_told, fates_of, may_tie, strikes_of, thing_shows, upheld_fates, whole_picture,
)
from spreadhues.pictures import Picture
from spreadhues.running import came_at, course_of
from spreadhues.together import had_together
from tests.helpers import NO_NUMBERS, NO_SEQUENCES, Case
from tests.webs import naive_fates, naive_may_tie, naive_shows, naive_strikes, naive_whole

EXAMPLE = ((((0, 1), (0, 0)), ((0, 1), (0, 1), (0, 0))),)
ACTIONS = (
    check_told, fates_of, strikes_of, upheld_fates, whole_picture, had_together,
    lambda firsts, told: thing_shows(firsts, told, None), lambda firsts, told: may_tie(firsts, told, None, None),
)


def chance_told(chance, marks, colours, pours, many):
    """First colours, and scripts told with courses that start alike."""
    firsts = tuple(chance.randrange(colours) for _ in range(marks))
    told, start = [], None
    for _ in range(many):
        script = tuple((chance.randrange(marks), chance.randrange(colours)) for _ in range(chance.randrange(pours + 1)))
        courses = [course for course in courses_of(firsts, script) if start in (None, course[0])]
        told.append((script, chance.choice(courses)))
        start = told[0][1][0]
    return firsts, tuple(told)


def told_with_fates(last):
    """Three scripts into four marks, all apart: 59 fates of colour 1, and one more for each further colour."""
    apart = (0, 1, 2, 3)
    scripts = (
        tuple((mark, 1) for mark in range(4)), ((0, 1), *((1, colour) for colour in last), (2, 1)),
        tuple((mark, 1) for mark in range(3)),
    )
    return tuple((script, (apart,) * (len(script) + 1)) for script in scripts)


def sides(picture):
    return picture.colours, picture.ties, picture.marks


class Told(Case):
    def test_what_is_returned(self):
        self.gives(EXAMPLE, check_told, (0, 0), EXAMPLE)
        empty = (((), ((0, 1),)),)
        for many in (1, 2, 3):
            self.gives(empty * many, check_told, (0, 0), empty * many)
        two = (((), ((0, 0),)), (((1, 5),), ((0, 0), (0, 0))))
        self.gives(two, check_told, (0, 0), two)

    def test_first_colours_and_many(self):
        for action in ACTIONS:
            for thing in (*NO_SEQUENCES, (), (0,) * 5):
                self.fails(BadFirsts, (0,), action, thing, None)
            for thing in (-1, 100, *NO_NUMBERS):
                self.fails(BadFirsts, (1,), action, (0, thing), None)
            for thing in (*NO_SEQUENCES, (), EXAMPLE * 4):
                self.fails(BadTold, (0, "many"), action, (0, 0), thing)

    def test_couple(self):
        for action in ACTIONS:
            for thing in (*NO_SEQUENCES, (), ((),), ((), ((0, 1),), 0)):
                self.fails(BadTold, (0, "couple"), action, (0, 0), (thing, None))
                self.fails(BadTold, (1, "couple"), action, (0, 0), (*EXAMPLE, thing, None))

    def test_scripts_and_courses(self):
        for action in ACTIONS:
            for thing in (*NO_SEQUENCES, ((0, 0),) * 13):
                self.fails(BadScript, (0, "many"), action, (0, 0), (*EXAMPLE, (thing, None), None))
            self.fails(BadScript, (1, "mark"), action, (0, 0), ((((0, 0), (2, 0)), None),))
            self.fails(BadScript, (0, "colour"), action, (0, 0), ((((0, True), (2, 0)), None),))
            self.fails(BadCourse, (0, "many"), action, (0, 0), (*EXAMPLE, ((), ()), None))
            self.fails(BadCourse, (0, "parting"), action, (0, 0), (((), ((False, 1),)),))
            self.fails(BadCourse, (0, "colour"), action, (0, 1), (((), ((0, 0),)), None))
            self.fails(BadCourse, (1, "parted"), action, (0, 0), ((((0, 1),), ((0, 0), (0, 1))),))
            self.fails(BadCourse, (1, "joined"), action, (0, 0), (*EXAMPLE, (((0, 1),), ((0, 1), (0, 0))), None))

    def test_start(self):
        one, apart = ((), ((0, 0),)), ((), ((0, 1),))
        for action in ACTIONS:
            if action is not had_together:
                self.fails(BadTold, (1, "start"), action, (0, 0), (one, apart, apart))
                self.fails(BadTold, (2, "start"), action, (0, 0), (apart, apart, one))
            # behind all items
            self.fails(BadTold, (2, "couple"), action, (0, 0), (one, apart, None))


class Fates(Case):
    def test_the_example_of_the_point(self):
        self.gives(((0, (2,)), (1, (1,))), fates_of, (0, 0), EXAMPLE)
        for one, other in itertools.product(range(2), repeat=2):
            self.gives(one == other, may_tie, (0, 0), EXAMPLE, one, other)
        for mark in range(2):
            self.gives(False, may_tie, (0, 0), EXAMPLE, mark, (0, (2,)))
            self.gives(True, may_tie, (0, 0), EXAMPLE, mark, (1, (1,)))
        self.gives(True, may_tie, (0, 0), EXAMPLE, (1, (1,)), (0, (2,)))

    def test_idle_pours_take_nothing(self):
        told = ((((0, 5), (1, 5), (0, 6), (1, 6)), ((0, 1),) * 5),)
        self.gives(((5, (2,)), (6, (3,)), (6, (4,))), fates_of, (5, 7), told)
        self.gives((), fates_of, (5, 7), (((), ((0, 1),)),))
        self.gives((), fates_of, (5, 7), ((((0, 5), (1, 7)), ((0, 1),) * 3),))

    def test_none_comes_behind_all_numbers(self):
        script, course = ((0, 1), (1, 1)), ((0, 1),) * 3
        due = ((1, (1, 1)), (1, (1, 2)), (1, (1, None)), (1, (2, 1)), (1, (2, 2)), (1, (2, None)), (1, (None, 1)), (1, (None, 2)))
        self.gives(due, fates_of, (0, 0), ((script, course),) * 2)

    def test_as_the_words_tell(self):
        chance = random.Random(63)
        for _ in range(250):
            firsts, told = chance_told(chance, chance.randrange(1, 4), 3, 4, chance.randrange(1, 4))
            due = naive_fates(firsts, told)
            if len(due) > 30:
                continue
            self.gives(tuple(due), fates_of, firsts, told)
            things = [*range(len(firsts)), *due]
            for thing in things:
                self.same(thing_shows(firsts, told, thing), naive_shows(firsts, told, thing))
            for one, other in [(chance.choice(things), chance.choice(things)) for _ in range(20)]:
                self.assertIs(may_tie(firsts, told, one, other), naive_may_tie(firsts, told, one, other))

    def test_60_and_more_fates(self):
        self.assertEqual(MOST_FATES, 60)
        firsts = (0,) * 4
        self.assertEqual(len(fates_of(firsts, told_with_fates((2,)))), 60)
        actions = (*ACTIONS[1:6], lambda *given: thing_shows(*given, None), lambda *given: may_tie(*given, None, 0))
        for action in actions:
            self.fails(TooMany, (60,), action, firsts, told_with_fates((2, 3)))
        self.gives(told_with_fates((2, 3)), check_told, firsts, told_with_fates((2, 3)))

    def test_12_pours_into_4_marks(self):
        firsts, apart = (0,) * 4, (0, 1, 2, 3)
        script = tuple((k % 4, 1 + k // 4) for k in range(12))
        told = ((script, (apart,) * 13),)
        due = tuple((colour, (4 * colour - 3 + mark,)) for colour in range(1, 4) for mark in range(4))
        self.gives(due, fates_of, firsts, told)


class Things(Case):
    def test_what_things_show(self):
        told = ((((0, 1), (1, 1), (0, 2)), ((0, 1), (0, 1), (0, 0), (0, 0))), ((), ((0, 1),)))
        a, b = (0, 0), (0, 1)
        self.gives(((a, (1, 0), (1, 0), (2, 0)), (a,)), thing_shows, (0, 0), told, 0)
        self.gives(((b, b, (1, 0), (2, 0)), (b,)), thing_shows, (0, 0), told, 1)
        self.gives((((1, None), (1, None), (1, 0), (2, 0)), ((1, None),)), thing_shows, (0, 0), told, (1, (2, None)))
        self.gives((((2, None), (2, None), (2, None), (2, 0)), ((2, None),)), thing_shows, (0, 0), told, (2, (3, None)))

    def test_fates_with_lists(self):
        self.same(thing_shows([0, 0], [[[[0, 1]], [[0, 1], [0, 1]]]], [1, [1]]), (((1, None), (1, 0)),))
        self.assertIs(may_tie((0, 0), EXAMPLE, [1, [1]], [0, (2,)]), True)
        self.assertIs(may_tie((0, 0), EXAMPLE, (1, [1]), 0), True)

    def test_bad_fates(self):
        told = ((((0, 1), (0, 0)), ((0, 1),) * 3), ((), ((0, 1),)))
        wrong = [
            *NO_NUMBERS, -1, 2, (), (1,), (1, ()), (1, (1,)), (1, (1, None, None)), (1, (2, None)), (0, (1, None)),
            (1, (None, None)), (2, (1, None)), (1, 1), (1, "1"), (True, (1, None)), (1, (True, None)), (0, (2, False)),
            (1.0, (1, None)), (1, (1, None), 0), "01", ((1, (1, None)),),
        ]
        for thing in wrong:
            self.fails(BadFate, (thing,), thing_shows, (0, 0), told, thing)
            self.fails(BadFate, (thing,), may_tie, (0, 0), told, thing, 9)
            self.fails(BadFate, (thing,), may_tie, (0, 0), told, (1, (1, None)), thing)

    def test_ties(self):
        """A fate is tied neither to itself nor to another one of its colour, a mark to itself."""
        script, course = ((0, 1), (1, 1)), ((0, 1),) * 3
        for one, other in itertools.product(((1, (1,)), (1, (2,))), repeat=2):
            self.gives(False, may_tie, (0, 0), ((script, course),), one, other)
        self.gives(True, may_tie, (0, 0), ((script, course),), 0, 0)
        self.gives(False, may_tie, (0, 0), ((script, course),), 0, 1)
        self.gives(True, may_tie, (0, 0), ((script, ((0, 0),) * 3),), 0, 1)


class Whole(Case):
    def test_the_example_of_the_point(self):
        self.gives((), strikes_of, (0, 0), EXAMPLE)
        self.gives(((0, (2,)), (1, (1,))), upheld_fates, (0, 0), EXAMPLE)
        picture = whole_picture((0, 0), EXAMPLE)
        self.same(sides(picture), ((0, 0, 0, 1), ((0, 3), (1, 3), (2, 3)), (0, 1)))
        self.same(course_of(picture, EXAMPLE[0][0]), EXAMPLE[0][1])
        self.same(came_at(picture, EXAMPLE[0][0]), (0, 0, 2, 1))

    def test_as_the_words_tell(self):
        chance = random.Random(64)
        turns = [0, 0, 0]
        for _ in range(200):
            firsts, told = chance_told(chance, chance.randrange(1, 4), 3, 4, chance.randrange(1, 4))
            if len(naive_fates(firsts, told)) > 24:
                continue
            strikes, left = naive_strikes(firsts, told)
            turns[min(len(strikes), 2)] += 1
            self.gives(strikes, strikes_of, firsts, told)
            self.gives(left, upheld_fates, firsts, told)
            self.gives(naive_whole(firsts, told)[0], lambda *given: sides(whole_picture(*given)), firsts, told)
        self.assertTrue(all(turns), turns)

    def test_one_script_upholds_all(self):
        chance = random.Random(65)
        for _ in range(100):
            firsts, told = chance_told(chance, chance.randrange(1, 5), 3, 12, 1)
            self.gives((), strikes_of, firsts, told)
            self.gives(fates_of(firsts, told), upheld_fates, firsts, told)
            picture = whole_picture(firsts, told)
            self.same(course_of(picture, told[0][0]), told[0][1])

    def test_the_fates_come_in_the_whole_picture_as_they_tell(self):
        chance = random.Random(66)
        for _ in range(150):
            firsts, told = chance_told(chance, chance.randrange(1, 4), 3, 4, 2)
            if type(had_together(firsts, told)).__name__ != "Had":
                continue
            picture = whole_picture(firsts, told)
            for index, (script, _) in enumerate(told):
                came = tuple(fate[1][index] for fate in upheld_fates(firsts, told))
                self.same(came_at(picture, script)[len(firsts):], came)

    def test_60_fates(self):
        firsts, told = (0,) * 4, told_with_fates((2,))
        picture = whole_picture(firsts, told)
        self.assertEqual(len(picture), 4 + len(upheld_fates(firsts, told)))
        for script, course in told:
            self.same(course_of(picture, script), course)
        self.assertEqual(sum(len(turn) for turn in strikes_of(firsts, told)) + len(picture), 64)
        self.assertIs(may_tie(firsts, told, 0, 1), False)

    def test_lists_that_change_later_have_no_effect(self):
        firsts, told = [0, 0], [[[[0, 1], [0, 0]], [[0, 1], [0, 1], [0, 0]]]]
        checked, picture = check_told(firsts, told), whole_picture(firsts, told)
        firsts[0], told[0][0][0][1], told[0][1][0] = 7, 7, None
        self.same(checked, EXAMPLE)
        self.assertEqual(picture, Picture([0, 0, 0, 1], [(0, 3), (1, 3), (2, 3)], [0, 1]))
