"""[8.6] to [8.8]: what a script can show next, what is sure then, and which script tells most."""

import itertools
import random
import time

from spreadhues.asking import next_fault, possible_rows, settling_asks, surely_next, which_asks
from spreadhues.errors import (
    BadFact, BadFirsts, BadMoment, BadScript, BadScripts, BadSight, NoPicture, TooMany,
)
from spreadhues.guessing import fitting_picture
from spreadhues.pictures import Picture
from spreadhues.sure import Both, Never, Sure, rows_at, surely
from tests.helpers import NO_NUMBERS, NO_SEQUENCES, Case, all_scripts, all_ties, chance_picture, naive_run
from tests.test_facts import all_facts, naive_holds, wrong_facts
from tests.test_guessing import APART, EMPTY, SIGHT, chance_sights, naive_sight, shows, sights_with_numbers
from tests.webs import naive_courses, naive_lack, naive_possible, naive_readings, naive_shown, seen_rows

WRONG = (((0, 1),), ((0, 1), (1, 0)))
ONE = ("one", 0, 1)
SEVEN = ((0, 0),) * 7


def judge(*given):
    return next_fault(*given, None)


def asked(firsts, sights, script):
    return surely_next(firsts, sights, script, 0, ("colour", 0, 0))


def naive_truths(firsts, sights, script, moment, fact):
    """The truths of the fact in the pictures that show the sights, from readings told by the words."""
    truths = set()
    for reading in naive_readings(firsts, sights):
        for course in naive_courses(firsts, script):
            truth = naive_holds(course[moment], seen_rows(firsts, script, course)[moment], fact)
            told = tuple(zip([sight[0] for sight in sights], reading)) + ((script, course),)
            if truth not in truths and len({other[0] for _, other in told}) == 1 and naive_lack(firsts, told) is None:
                truths.add(truth)
    return truths


def due_class(truths):
    return {(True,): Sure, (False,): Never, (False, True): Both}[tuple(sorted(truths))]


class Errors(Case):
    def test_first_colours_sights_script(self):
        actions = (
            possible_rows, lambda *given: surely_next(*given, None, None), lambda *given: judge(*given, None, None),
        )
        for action in actions:
            for thing in (*NO_SEQUENCES, (), (0,) * 5):
                self.fails(BadFirsts, (0,), action, thing, None, None)
            self.fails(BadFirsts, (1,), action, (0, True), None, None)
            for thing in (*NO_SEQUENCES, (EMPTY,) * 3):
                self.fails(BadSight, (0, "many"), action, (0, 1), thing, None)
            self.fails(BadSight, (1, "rows"), action, (0, 1), (EMPTY, ((), ((0, True),))), None)
            for thing in (*NO_SEQUENCES, ((0, 0),) * 13):
                self.fails(BadScript, (0, "many"), action, (0, 1), (WRONG,), thing)
            self.fails(BadScript, (1, "pour"), action, (0, 1), (WRONG,), ((0, 0), (0,)))
            self.fails(BadScript, (0, "mark"), action, (0, 1), (WRONG,), ((False, 100),))
            self.fails(BadScript, (6, "colour"), action, (0, 1), (WRONG,), (*SEVEN[1:], (0, True)))
            self.fails(TooMany, (6,), action, (0, 1), (WRONG,), SEVEN)

    def test_moment_and_fact(self):
        long = sights_with_numbers((2, 3))[:2]
        for action in (surely_next, judge):
            for thing in (-1, 2, *NO_NUMBERS):
                self.fails(BadMoment, (thing,), action, (0, 1), (WRONG,), ((0, 1),), thing, None)
            for thing in wrong_facts(2):
                self.fails(BadFact, (thing,), action, (0, 1), (WRONG,), ((0, 1),), 1, thing)
            self.fails(BadFact, (None,), action, (0,) * 4, long, ((0, 1),) * 6, 1, None)
            self.fails(BadMoment, (7,), action, (0,) * 4, long, ((0, 1),) * 6, 7, None)

    def test_the_bound_counts_the_script_beside_the_sights(self):
        actions = (
            possible_rows, asked, lambda *given: judge(*given, 0, ("colour", 0, 0)),
            lambda firsts, sights, script: which_asks(firsts, sights, (script,)),
        )
        sights = sights_with_numbers(())
        for action in actions:
            for two, script in ((sights[:2], sights[2][0]), (sights[1:], sights[0][0]), (sights[::2], sights[1][0])):
                action((0,) * 4, two, script)
                self.fails(TooMany, (60,), action, (0,) * 4, two, (*script, (0, 2), (0, 3)))
            # the script of a sight counts once more
            five = (((0, 1),) * 5, ((0, 1), *((1, 1),) * 5))
            action((0, 1), (five,), five[0])
            self.fails(TooMany, (60,), action, (0, 1), (five, five), five[0][:1])
            # 9 * 7 - 1 is more than 60, and this comes before sights that no picture shows
            eight = (((0, 0),) * 8, ((0, 1),) * 9)
            self.fails(TooMany, (60,), action, (0, 1), (eight, WRONG), ((0, 0),) * 6)

    def test_no_picture(self):
        actions = (
            possible_rows, asked, lambda *given: judge(*given, 0, ("colour", 0, 0)),
            lambda firsts, sights, script: which_asks(firsts, sights, (script,)),
        )
        for action in actions:
            self.fails(NoPicture, (0,), action, (0, 1), (WRONG,), ())
            self.fails(NoPicture, (0,), action, (0, 1), (WRONG, SIGHT), ((0, 1),))
            self.fails(NoPicture, (1,), action, (0, 1), (SIGHT, WRONG), ((0, 1),))
            self.fails(NoPicture, (1,), action, (0, 1), (SIGHT, APART), ((0, 1),))


class Possible(Case):
    def test_examples(self):
        self.gives((((0, 1),),), possible_rows, (0, 1), (), ())
        self.gives((SIGHT[1], APART[1])[::-1], possible_rows, (0, 1), (), SIGHT[0])
        self.gives((SIGHT[1],), possible_rows, (0, 1), (SIGHT,), SIGHT[0])
        self.gives((APART[1],), possible_rows, (0, 1), (EMPTY, APART), SIGHT[0])
        # marks that the first pour of mark 0 joins are joined by that of mark 1, too
        self.gives((((0, 1), (0, 0), (2, 2)),), possible_rows, (0, 1), (SIGHT,), ((1, 0), (0, 2)))
        self.gives((((0, 1), (0, 0), (2, 0)),), possible_rows, (0, 1), (APART,), ((1, 0), (0, 2)))

    def test_the_script_of_a_sight_and_its_beginnings(self):
        chance = random.Random(87)
        for _ in range(40):
            picture = chance_picture(chance, 6, 2, 3, 0.4)
            firsts = tuple(picture.colours[cell] for cell in picture.marks)
            sights = tuple(
                naive_sight(picture, [(chance.randrange(3), chance.randrange(3)) for _ in range(3)]) for _ in range(2)
            )
            for script, rows in sights:
                for many in range(4):
                    self.gives((rows[:many + 1],), possible_rows, firsts, sights[:2], script[:many])

    def test_without_sights_all_courses_count(self):
        for firsts in ((0, 0), (0, 1)):
            for script in all_scripts(2, 3, 2):
                due = sorted({tuple(seen_rows(firsts, script, c)) for c in naive_courses(firsts, script)})
                self.same(possible_rows(firsts, (), script), tuple(due))
                self.same(tuple(sorted({rows[-1] for rows in due})), rows_at(firsts, script, 2))

    def test_all_small_pictures(self):
        """The rows are those of the small pictures that show the sight, and of the pictures that are fitted."""
        scripts = list(all_scripts(2, 2, 2))
        for firsts in ((0, 0), (0, 1)):
            pictures = [
                Picture((*firsts, *more), ties, [0, 1])
                for more in itertools.product(range(2), repeat=2) for ties in all_ties(4)
            ]
            shown = {script: [naive_sight(picture, script) for picture in pictures] for script in scripts}
            for known, script in list(itertools.product(scripts, repeat=2))[::5]:
                for sight in sorted(set(shown[known])):
                    told = possible_rows(firsts, (sight,), script)
                    self.same(told, tuple(sorted(set(told))))
                    found = {other[1] for own, other in zip(shown[known], shown[script]) if own == sight}
                    self.assertTrue(found <= set(told))
                    for rows in told:
                        picture = fitting_picture(firsts, (sight, (script, rows))).picture
                        self.assertTrue(shows(picture, firsts, (sight, (script, rows))))

    def test_as_the_words_tell(self):
        chance = random.Random(88)
        for _ in range(60):
            firsts, sights = chance_sights(chance, chance.randrange(2, 4), chance.randrange(3), 2)
            script = tuple((chance.randrange(len(firsts)), chance.randrange(2)) for _ in range(2))
            if naive_shown(firsts, sights):
                self.gives(naive_possible(firsts, sights, script), possible_rows, firsts, sights, script)

    def test_with_one_more_sight_there_are_no_more_rows(self):
        chance = random.Random(89)
        for _ in range(40):
            picture = chance_picture(chance, 7, 2, 3, 0.4)
            firsts = tuple(picture.colours[cell] for cell in picture.marks)
            sights = tuple(
                naive_sight(picture, [(chance.randrange(3), chance.randrange(2)) for _ in range(2)]) for _ in range(2)
            )
            script = tuple((chance.randrange(3), chance.randrange(2)) for _ in range(3))
            rows = [set(possible_rows(firsts, sights[:many], script)) for many in range(3)]
            self.assertTrue(rows[2] <= rows[1] <= rows[0])
            self.assertIn(naive_sight(picture, script)[1], rows[2])


class Next(Case):
    def test_examples(self):
        self.assertEqual(surely_next((0, 1), (SIGHT,), ((0, 1),), 1, ONE), Sure())
        self.assertEqual(surely_next((0, 1), (SIGHT,), ((1, 0),), 1, ONE), Sure())
        self.assertEqual(surely_next((0, 1), (APART,), ((1, 0),), 1, ONE), Never())
        self.assertEqual(surely_next((0, 1), (APART,), ((0, 1),), 0, ONE), Never())
        both = surely_next([0, 1], [list(EMPTY)], [[1, 0]], 1, list(ONE))
        self.assertIs(type(both), Both)
        self.assertIsNone(next_fault((0, 1), (EMPTY,), ((1, 0),), 1, ONE, both))
        # of two marks of one colour it is open whether they are one at moment 0
        self.assertIs(type(surely_next((5, 5), (), (), 0, ONE)), Both)
        self.assertEqual(surely_next((5, 5), ((((0, 1),), ((5, 5), (1, 1))),), (), 0, ONE), Sure())

    def test_without_sights_it_is_as_told_of_all_pictures(self):
        for firsts in ((0, 0), (0, 1)):
            for script in list(all_scripts(2, 3, 2))[::2]:
                for moment in range(3):
                    for fact in all_facts(2, 3):
                        told = surely_next(firsts, (), script, moment, fact)
                        self.assertIs(type(told), type(surely(firsts, script, moment, fact)))
                        self.assertIsNone(next_fault(firsts, (), script, moment, fact, told))

    def test_as_the_words_tell(self):
        chance = random.Random(90)
        for _ in range(100):
            firsts, sights = chance_sights(chance, chance.randrange(2, 4), chance.randrange(3), 2)
            if not naive_shown(firsts, sights):
                continue
            script = tuple((chance.randrange(len(firsts)), chance.randrange(2)) for _ in range(chance.randrange(3)))
            moment = chance.choice((0, len(script), chance.randrange(len(script) + 1)))
            fact = chance.choice(list(all_facts(len(firsts), 2)))
            told = surely_next(firsts, sights, script, moment, fact)
            self.assertIs(type(told), due_class(naive_truths(firsts, sights, script, moment, fact)))
            self.assertIsNone(next_fault(firsts, sights, script, moment, fact, told))
            if isinstance(told, Both):
                for picture, due in ((told.holds, True), (told.fails, False)):
                    self.assertTrue(shows(picture, firsts, sights))
                    run = naive_run(picture.colours, picture.ties, picture.marks, script)
                    self.assertIs(naive_holds(*run[moment][:2], fact), due)


class Fault(Case):
    def judged(self, word, answer, sights=(EMPTY,), script=((1, 0),), moment=1, fact=ONE):
        self.gives(word, lambda *given: next_fault(*given, answer), (0, 1), sights, script, moment, fact)

    def test_answer(self):
        for thing in (None, True, False, 0, (), "Sure", Sure, Picture([0, 1], [], [0, 1])):
            self.judged("answer", thing)
            self.judged("answer", thing, (SIGHT,))

    def test_sure(self):
        self.judged("sure", Sure())
        self.judged("sure", Never())
        self.judged(None, Sure(), (SIGHT,))
        self.judged("sure", Never(), (SIGHT,))
        self.judged(None, Never(), (APART,))
        self.judged("sure", Sure(), (APART,))
        one, apart = Picture([0, 1], [(0, 1)], [0, 1]), Picture([0, 1], [], [0, 1])
        self.judged("sure", Both(one, apart), (SIGHT,))
        self.judged("sure", Both(one, apart), (APART,))
        self.judged("sure", Both(one, apart), moment=0)

    def test_both(self):
        one, apart = Picture([0, 1], [(0, 1)], [0, 1]), Picture([7, 0, 1], [], [1, 2])
        self.judged(None, Both(one, apart))
        for wrong in (
            Picture([0, 1], [], [0]), Picture([0, 1], [], [1, 0]), Picture([0, 1, 1], [], [0, 1, 2]),
            Picture([0, 2], [], [0, 1]),
        ):
            self.judged("sight", Both(wrong, apart))
            self.judged("sight", Both(one, wrong))
            self.judged("fact", Both(apart, wrong))
        self.judged("fact", Both(apart, one))
        self.judged("fact", Both(one, one))
        self.judged("fact", Both(apart, apart))

    def test_without_sights(self):
        one, apart = Picture([0, 1], [(0, 1)], [0, 1]), Picture([0, 1], [], [0, 1])
        self.judged(None, Both(one, apart), ())
        for wrong in (Picture([0, 2], [], [0, 1]), Picture([1, 1], [], [0, 1]), Picture([0, 1], [], [0]),
                      Picture([0, 1, 5], [], [0, 1, 2])):
            self.judged("sight", Both(wrong, apart), ())
            self.judged("sight", Both(one, wrong), ())

    def test_pictures_that_do_not_show_the_sights(self):
        # with mark 1 poured in 2, a cell of 2 between the marks may join them or not
        sight = (((0, 1), (0, 2)), ((0, 1), (1, 1), (2, 1)))
        given = {"sights": (sight,), "script": ((1, 3), (0, 2), (0, 3)), "moment": 3}
        one = Picture([0, 1, 2], [(0, 2), (1, 2)], [0, 1])
        apart = Picture([0, 1], [], [0, 1])
        self.judged(None, Both(one, apart), **given)
        shown = Picture([0, 1], [(0, 1)], [0, 1])
        self.judged("sight", Both(shown, apart), **given)
        self.judged("sight", Both(one, shown), **given)
        self.judged("fact", Both(apart, shown), **given)


class Which(Case):
    def test_examples(self):
        scripts = ((), ((0, 2),), ((0, 1), (0, 2)), ((1, 0), (1, 2)))
        self.gives(2, which_asks, (0, 1), (), scripts)
        self.gives(0, which_asks, (0, 1), (SIGHT,), scripts)
        self.gives(0, which_asks, (0, 1), (), scripts[:1])
        self.gives(0, which_asks, (0, 1), (), scripts[2:])
        self.gives(7, which_asks, (0, 1), (), ((),) * 7 + scripts[3:])

    def test_most_rows(self):
        chance = random.Random(91)
        for _ in range(25):
            firsts, sights = chance_sights(chance, 3, chance.randrange(3), 2)
            if not naive_shown(firsts, sights):
                continue
            scripts = tuple(
                tuple((chance.randrange(3), chance.randrange(2)) for _ in range(chance.randrange(4)))
                for _ in range(chance.randrange(1, 9))
            )
            counts = [len(possible_rows(firsts, sights, script)) for script in scripts]
            self.gives(counts.index(max(counts)), which_asks, firsts, sights, scripts)

    def test_errors(self):
        for action in (which_asks, lambda *given: settling_asks(*given, None, None, None)):
            for thing in (*NO_SEQUENCES, (), (0,) * 5):
                self.fails(BadFirsts, (0,), action, thing, None, None)
            self.fails(BadSight, (0, "sight"), action, (0, 1), (None,), None)
            for thing in (*NO_SEQUENCES, (), ((),) * 9):
                self.fails(BadScripts, (0,), action, (0, 1), (WRONG,), thing)
            for thing in (*NO_SEQUENCES, SEVEN, ((2, 0),), ((0, 100),), ((0, True),), ((False, 0),), ((0,),)):
                self.fails(BadScripts, (1,), action, (0, 1), (WRONG,), ((), thing, None))
        for thing in ((EMPTY,) * 3, None):
            self.fails(BadSight, (0, "many"), which_asks, (0, 1), thing, None)

    def test_the_bound_holds_for_each_script(self):
        sights = sights_with_numbers(())[:2]
        script = sights_with_numbers(())[2][0]
        self.gives(0, which_asks, (0,) * 4, sights, (script,) * 8)
        self.fails(TooMany, (60,), which_asks, (0,) * 4, sights, (*(script,) * 7, (*script, (0, 2), (0, 3))))
        self.fails(TooMany, (60,), which_asks, (0, 1), (WRONG, (((0, 0),) * 8, ((0, 1),) * 9)), (((0, 0),) * 6,))
        self.fails(NoPicture, (0,), which_asks, (0, 1), (WRONG,), ((),))


class Settling(Case):
    def test_examples(self):
        scripts = ((), ((0, 1), (0, 2)), ((0, 1),), ((1, 0), (0, 2)), ((0, 3), (1, 3), (1, 2)))
        self.gives((1, 3), settling_asks, (0, 1), (), scripts, ((0, 1),), 1, ONE)
        self.gives((0, 1, 2, 3, 4), settling_asks, (0, 1), (SIGHT,), scripts, ((0, 1),), 1, ONE)
        self.gives((0, 1, 2, 3, 4), settling_asks, (0, 1), (), scripts, ((0, 1),), 0, ONE)
        self.gives((), settling_asks, (0, 1), (), scripts[::2], ((0, 1), (0, 2)), 2, ("colour", 1, 2))

    def test_as_told_by_surely_next(self):
        chance = random.Random(92)
        for _ in range(30):
            firsts, sights = chance_sights(chance, chance.randrange(2, 4), chance.randrange(2), 2)
            if not naive_shown(firsts, sights):
                continue

            def script():
                return tuple((chance.randrange(len(firsts)), chance.randrange(2)) for _ in range(chance.randrange(4)))

            scripts, last = tuple(script() for _ in range(3)), script()
            moment, fact = chance.randrange(len(last) + 1), chance.choice(list(all_facts(len(firsts), 2)))
            due = tuple(
                index for index, other in enumerate(scripts)
                if not any(
                    isinstance(surely_next(firsts, (*sights, (other, rows)), last, moment, fact), Both)
                    for rows in possible_rows(firsts, sights, other)
                )
            )
            self.gives(due, settling_asks, firsts, sights, scripts, last, moment, fact)

    def test_errors(self):
        two, given = (EMPTY, EMPTY), ((0, 1), (WRONG,), ((),))
        self.fails(BadSight, (0, "many"), settling_asks, (0, 1), two, None, None, None, None)
        self.fails(BadScripts, (0,), settling_asks, (0, 1), (WRONG,), (None,), None, None, None)
        for thing in (*NO_SEQUENCES, ((0, 0),) * 13):
            self.fails(BadScript, (0, "many"), settling_asks, *given, thing, None, None)
        self.fails(BadScript, (1, "mark"), settling_asks, *given, ((0, 0), (True, 0)), None, None)
        self.fails(TooMany, (6,), settling_asks, *given, SEVEN, None, None)
        for thing in (-1, 2, *NO_NUMBERS):
            self.fails(BadMoment, (thing,), settling_asks, *given, ((0, 1),), thing, None)
        for thing in wrong_facts(2):
            self.fails(BadFact, (thing,), settling_asks, *given, ((0, 1),), 0, thing)
        self.fails(NoPicture, (0,), settling_asks, *given, ((0, 1),), 0, ONE)

    def test_the_bound_counts_all_three(self):
        sights = sights_with_numbers(())
        fact = ("colour", 0, 0)
        for at in range(3):
            one, other = [sight[0] for k, sight in enumerate(sights) if k != at]
            given = ((0,) * 4, sights[at:at + 1])
            self.gives((0, 1), settling_asks, *given, (one, one), other, 0, fact)
            longer = (*one, (0, 2), (0, 3))
            self.fails(TooMany, (60,), settling_asks, *given, (one, longer), other, 0, fact)
            self.fails(TooMany, (60,), settling_asks, *given, (other,), longer, 0, fact)
        self.fails(BadFact, (None,), settling_asks, *given, (other,), longer, 0, None)


class Greatest(Case):
    def test_scripts_of_6_pours(self):
        begun = time.perf_counter()
        chance = random.Random(93)
        for _ in range(12):
            picture = chance_picture(chance, 9, 2, 4, 0.3)
            firsts = tuple(picture.colours[cell] for cell in picture.marks)
            # the numbers of 6 + 4 + 2 pours of two colours are 23 each, with those of two more below 60
            scripts = [tuple((chance.randrange(4), k % 2) for k in range(many)) for many in (4, 2, 6)]
            sights = tuple(naive_sight(picture, script) for script in scripts[:2])
            rows = possible_rows(firsts, sights, scripts[2])
            self.assertIn(naive_sight(picture, scripts[2])[1], rows)
            told = surely_next(firsts, sights, scripts[2], 6, ("colour", 0, 1))
            self.assertIsNone(next_fault(firsts, sights, scripts[2], 6, ("colour", 0, 1), told))
            many = tuple(tuple((chance.randrange(4), k % 3) for k in range(6)) for _ in range(8))
            self.assertIn(which_asks(firsts, sights[1:], many), range(8))
            # one sight of a pour, and two scripts of 6 pours
            first = naive_sight(picture, ((0, 7),))
            settling_asks(firsts, (first,), many, many[0], 6, ONE)
            self.assertIn(0, settling_asks((0,) * 4, (), many, many[0], 6, ("colour", 3, 1)))
        self.assertLess(time.perf_counter() - begun, 60)
