"""[8.3], [8.4]: readings of sights, and pictures that show them."""

import itertools
import random
import time

from spreadhues.errors import BadFirsts, BadSight, TooMany
from spreadhues.guessing import Fit, NoFit, fit_fault, fitting_picture, readings_of
from spreadhues.pictures import Picture
from spreadhues.seenrows import fitting_courses
from tests.helpers import NO_NUMBERS, NO_SEQUENCES, Case, all_scripts, all_ties, chance_picture, naive_run
from tests.webs import naive_courses, naive_readings, naive_shown, seen_rows

SIGHT = (((0, 1), (0, 2)), ((0, 1), (1, 1), (2, 2)))
APART = (((0, 1), (0, 2)), ((0, 1), (1, 1), (2, 1)))
EMPTY = ((), ((0, 1),))


def readings(firsts, sights):
    return tuple(readings_of(firsts, sights))


def judge(firsts, sights):
    return fit_fault(firsts, sights, None)


ACTIONS = (readings, fitting_picture, judge)


def naive_sight(picture, script):
    """The sight that a picture shows."""
    moments = naive_run(picture.colours, picture.ties, picture.marks, script)
    return tuple(map(tuple, script)), tuple(moment[1] for moment in moments)


def shows(picture, firsts, sights):
    """Whether the picture has these first colours and shows the sights, cell by cell."""
    if tuple(picture.colours[cell] for cell in picture.marks) != tuple(firsts):
        return False
    return all(naive_sight(picture, script) == (script, rows) for script, rows in sights)


def chance_sights(chance, marks, many, pours, colours=2):
    """First colours, and sights that one picture shows or that were made up."""
    if chance.random() < 0.7:
        picture = chance_picture(chance, chance.randrange(marks, marks + 4), colours, marks, 0.4)
        firsts = tuple(picture.colours[cell] for cell in picture.marks)
    else:
        picture, firsts = None, tuple(chance.randrange(colours) for _ in range(marks))
    sights = []
    for _ in range(many):
        script = tuple((chance.randrange(marks), chance.randrange(colours)) for _ in range(chance.randrange(pours + 1)))
        if picture is not None:
            sights.append(naive_sight(picture, script))
        else:
            sights.append((script, tuple(seen_rows(firsts, script, chance.choice(naive_courses(firsts, script))))))
    return firsts, tuple(sights)


def sights_with_numbers(last):
    """Three sights into four marks: the colours' numbers are 59 together, and one more for each further colour."""
    scripts = (
        tuple((mark, 1) for mark in range(4)), ((0, 1), *((1, colour) for colour in last), (2, 1)),
        tuple((mark, 1) for mark in range(3)),
    )
    picture = Picture([0] * 4, [], [0, 1, 2, 3])
    return tuple(naive_sight(picture, script) for script in scripts)


class Errors(Case):
    def test_first_colours_then_sights(self):
        for action in ACTIONS:
            for thing in (*NO_SEQUENCES, (), (0,) * 5):
                self.fails(BadFirsts, (0,), action, thing, None)
            for thing in (-1, 100, *NO_NUMBERS):
                self.fails(BadFirsts, (1,), action, (0, thing), None)
            for thing in (*NO_SEQUENCES, (EMPTY,) * 4):
                self.fails(BadSight, (0, "many"), action, (0, 1), thing)
            self.fails(BadSight, (1, "sight"), action, (0, 1), (EMPTY, (EMPTY,)))
            self.fails(BadSight, (1, "script"), action, (0, 1), (EMPTY, (((2, 0),), ((0, 1),))))
            self.fails(BadSight, (2, "rows"), action, (0, 1), (EMPTY, EMPTY, ((), ())))
            self.fails(BadSight, (0, "firsts"), action, (0, 1), (((), ((1, 1),)), None))

    def test_the_bound(self):
        for last in ((), (2,), (0,)):
            sights = sights_with_numbers(last)
            self.assertIs(type(fitting_picture((0,) * 4, sights)), Fit)
            self.assertTrue(readings((0,) * 4, sights))
        for last in ((2, 3), (2, 0), (2, 2), (2, 3, 4)):
            for action in ACTIONS:
                self.fails(TooMany, (60,), action, (0,) * 4, sights_with_numbers(last))
        # a faulty sight is told first
        self.fails(BadSight, (2, "sight"), readings, (0,) * 4, (*sights_with_numbers((2, 3))[:2], None))

    def test_idle_pours_count(self):
        idle = (((0, 0),) * 7, ((0, 1),) * 8)
        # 8 * 8 - 1 is more than 60, 8 * 7 - 1 is not
        for action in ACTIONS:
            self.fails(TooMany, (60,), action, (0, 1), (idle, idle))
        self.yields((((((0, 1),) * 8, ((0, 1),) * 7)),), readings_of, (0, 1), (idle, (((0, 0),) * 6, ((0, 1),) * 7)))
        # a sight told twice counts twice
        four = (((0, 0),) * 4, ((0, 1),) * 5)
        self.fails(TooMany, (60,), readings, (0, 1), (four,) * 3)
        self.assertIs(type(fitting_picture((0, 1), (four,) * 2)), Fit)


class Readings(Case):
    def test_examples(self):
        self.yields(((),), readings_of, (0, 1), ())
        self.yields((((((0, 1),)),),), readings_of, (0, 1), (EMPTY,))
        self.yields(((((0, 0),),), (((0, 1),),)), readings_of, (5, 5), (((), ((5, 5),)),))
        # of two sights of one script the courses are the same one
        self.yields(
            ((((0, 0),), ((0, 0),)), (((0, 1),), ((0, 1),))), readings_of, (5, 5), (((), ((5, 5),)),) * 2,
        )
        self.yields((), readings_of, (0, 1), (SIGHT, APART))
        self.yields(((((0, 1), (0, 0), (0, 0)), ((0, 1),)),), readings_of, (0, 1), (SIGHT, EMPTY))

    def test_a_single_sight_is_read_as_its_fitting_courses(self):
        chance = random.Random(81)
        for _ in range(40):
            firsts, sights = chance_sights(chance, chance.randrange(1, 5), 1, 6)
            self.yields(tuple((course,) for course in fitting_courses(firsts, sights[0])), readings_of, firsts, sights)

    def test_as_the_words_tell(self):
        chance = random.Random(82)
        for _ in range(120):
            firsts, sights = chance_sights(chance, chance.randrange(2, 4), chance.randrange(2, 4), 3)
            try:
                told = readings(firsts, sights)
            except TooMany:
                continue
            self.same(told, tuple(naive_readings(firsts, sights)))
            self.assertEqual(list(told), sorted(told))

    def test_what_larger_pictures_have_is_read(self):
        chance = random.Random(83)
        for _ in range(60):
            marks = chance.randrange(1, 5)
            picture = chance_picture(chance, chance.randrange(marks, 9), 3, marks, 0.35)
            scripts = [
                tuple((chance.randrange(marks), chance.randrange(4)) for _ in range(4)) for _ in range(3)
            ]
            firsts = tuple(picture.colours[cell] for cell in picture.marks)
            sights = tuple(naive_sight(picture, script) for script in scripts)
            try:
                told = readings(firsts, sights)
            except TooMany:
                continue
            self.assertIn(tuple(
                tuple(moment[0] for moment in naive_run(picture.colours, picture.ties, picture.marks, script))
                for script in scripts
            ), told)
            self.assertIsNone(fit_fault(firsts, sights, fitting_picture(firsts, sights)))


class Fitting(Case):
    def test_examples(self):
        told = fitting_picture((0, 1), (SIGHT, EMPTY))
        self.assertIs(type(told), Fit)
        self.assertTrue(shows(told.picture, (0, 1), (SIGHT, EMPTY)))
        self.assertTrue(shows(fitting_picture((3, 3, 0), ()).picture, (3, 3, 0), ()))
        self.gives(NoFit(1), fitting_picture, (0, 1), (SIGHT, APART))
        self.gives(NoFit(2), fitting_picture, (0, 1), (APART, EMPTY, SIGHT))
        wrong = (((0, 1),), ((0, 1), (1, 0)))
        self.gives(NoFit(0), fitting_picture, (0, 1), (wrong, APART, SIGHT))
        self.gives(NoFit(1), fitting_picture, (0, 1), (APART, wrong))

    def test_all_small_sights(self):
        """What a small picture shows is fitted; what is fitted is shown by the picture, cell by cell."""
        scripts = [script for pours in (1, 2) for script in all_scripts(2, 2, pours)]
        pairs = list(itertools.combinations_with_replacement(scripts, 2))[::3]
        for firsts in ((0, 0), (0, 1)):
            pictures = [
                Picture((*firsts, *more), ties, [0, 1])
                for more in itertools.product(range(2), repeat=2) for ties in all_ties(4)
            ]
            shown = {script: [naive_sight(picture, script) for picture in pictures] for script in scripts}
            rows = {
                script: {tuple(seen_rows(firsts, script, c)) for c in naive_courses(firsts, script)}
                for script in scripts
            }
            for one, other in pairs:
                found = set(zip(shown[one], shown[other]))
                for seen in itertools.product(rows[one], rows[other]):
                    sights = tuple(zip((one, other), seen))
                    told = fitting_picture(firsts, sights)
                    if sights in found:
                        self.assertIs(type(told), Fit)
                    if isinstance(told, Fit):
                        self.assertTrue(shows(told.picture, firsts, sights))
                    else:
                        self.assertEqual(told, NoFit(1))
                    self.assertIsNone(fit_fault(firsts, sights, told))

    def test_as_the_words_tell(self):
        chance = random.Random(84)
        for _ in range(120):
            firsts, sights = chance_sights(chance, chance.randrange(2, 4), 3, 2)
            least = [k for k in range(3) if not naive_shown(firsts, sights[:k + 1])]
            told = fitting_picture(firsts, sights)
            if least:
                self.assertEqual(told, NoFit(least[0]))
            else:
                self.assertTrue(shows(told.picture, firsts, sights))
            self.assertIsNone(fit_fault(firsts, sights, told))


class Fault(Case):
    def judged(self, word, answer, sights=(SIGHT, EMPTY), firsts=(0, 1)):
        self.gives(word, lambda *given: fit_fault(*given, answer), firsts, sights)

    def test_answer(self):
        for thing in (None, True, 0, (), "Fit", Fit, NoFit, Picture([0, 1], [], [0, 1])):
            self.judged("answer", thing)

    def test_fit(self):
        right = Picture([0, 1], [(0, 1)], [0, 1])
        self.judged(None, Fit(right))
        self.judged(None, Fit(Picture([5, 1, 0], [(1, 2)], [2, 1])))
        self.judged("marks", Fit(Picture([0, 1], [(0, 1)], [0])))
        self.judged("marks", Fit(Picture([0, 1, 1], [(0, 1)], [0, 1, 2])))
        self.judged("firsts", Fit(Picture([0, 1], [(0, 1)], [1, 0])))
        self.judged("firsts", Fit(Picture([0, 2], [(0, 1)], [0, 1])))
        self.judged("sight", Fit(Picture([0, 1], [], [0, 1])))
        self.judged("sight", Fit(right), (EMPTY, APART))
        self.judged("sight", Fit(right), (SIGHT, APART))
        self.judged(None, Fit(Picture([0, 1], [], [0, 1])), ())
        self.judged("firsts", Fit(Picture([0, 1], [], [0, 1])), (), (0, 2))

    def test_no_fit(self):
        for index in (0, 1, 2, -1, *NO_NUMBERS):
            self.judged("index", NoFit(index))
            self.judged("index", NoFit(index), ())
        for index in (0, 2, -1, *NO_NUMBERS):
            self.judged("index", NoFit(index), (APART, SIGHT))
        self.judged(None, NoFit(1), (APART, SIGHT))
        wrong = (((0, 1),), ((0, 1), (1, 0)))
        self.judged(None, NoFit(0), (wrong,))
        self.judged("index", NoFit(False), (wrong,))


class Greatest(Case):
    def test_three_sights_at_the_bound(self):
        chance = random.Random(85)
        begun = time.perf_counter()
        for _ in range(10):
            picture = chance_picture(chance, 9, 2, 4, 0.3)
            firsts = tuple(picture.colours[cell] for cell in picture.marks)
            # the numbers are 26, 26, 7 and 1
            rows = [chance.sample(row, len(row)) for row in ((0, 0, 1, 1, 2, 3), (0, 0, 1, 1, 2), (0, 0, 1, 1, 2))]
            scripts = [tuple((chance.randrange(4), colour) for colour in row) for row in rows]
            sights = tuple(naive_sight(picture, script) for script in scripts)
            self.assertIsNone(fit_fault(firsts, sights, fitting_picture(firsts, sights)))
            self.assertTrue(readings(firsts, sights))
            more = (sights[0], naive_sight(picture, (*scripts[1], (0, 5))), sights[2])
            self.fails(TooMany, (60,), readings, firsts, more)
        self.assertLess(time.perf_counter() - begun, 20)

    def test_12_pours(self):
        chance = random.Random(86)
        for _ in range(10):
            picture = chance_picture(chance, 9, 3, 4, 0.3)
            firsts = tuple(picture.colours[cell] for cell in picture.marks)
            long = tuple((chance.randrange(4), k % 3) for k in range(12))
            short = tuple((chance.randrange(4), colour) for colour in (0, 1, 2, 0, 1))
            sights = (naive_sight(picture, long), naive_sight(picture, short))
            self.assertIsNone(fit_fault(firsts, sights, fitting_picture(firsts, sights)))
