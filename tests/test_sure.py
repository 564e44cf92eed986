"""[6.8]: what is sure in a picture of which the first colours of the marks alone are known."""

import itertools
import random

from spreadhues.courses import courses_of
from spreadhues.errors import BadColour, BadFact, BadFirsts, BadMoment, BadScript, NoMark
from spreadhues.pictures import Picture
from spreadhues.sure import (
    Both, Never, Sure, end_colours, end_rows, joining_moments, rows_at, sure_fault, surely,
)
from tests.helpers import NO_NUMBERS, NO_SEQUENCES, Case, all_scripts, all_ties, naive_run
from tests.test_facts import all_facts, naive_holds, wrong_facts
from tests.webs import seen_rows


def runs(firsts, script, more, colours):
    """The runs of the script on all pictures with these marks and so many cells more."""
    marks = range(len(firsts))
    for other in itertools.product(range(colours), repeat=more):
        for ties in all_ties(len(firsts) + more):
            yield naive_run((*firsts, *other), ties, marks, script)


def none_last(moments):
    return tuple(sorted(moments, key=lambda moment: (moment is None, moment)))


class Surely(Case):
    def test_examples(self):
        self.assertEqual(surely((0, 1), ((0, 2),), 1, ("colour", 0, 2)), Sure())
        self.assertEqual(surely((0, 1), ((0, 2),), 1, ("one", 0, 1)), Never())
        self.assertEqual(surely((0, 1), (), 0, ("unlike", 0, 1)), Sure())
        both = surely((0, 1), ((0, 1), (0, 2)), 2, ("unlike", 0, 1))
        self.assertIs(type(both), Both)
        self.assertIsNone(sure_fault((0, 1), ((0, 1), (0, 2)), 2, ("unlike", 0, 1), both))

    def test_all_small_pictures(self):
        """For two marks two cells more show whatever can be after two pours."""
        for firsts in ((0, 0), (0, 1)):
            for script in list(all_scripts(2, 3, 2))[::2]:
                shown = {tuple(moment[:2] for moment in moments) for moments in runs(firsts, script, 2, 3)}
                for moment in range(3):
                    for fact in all_facts(2, 3):
                        holds = {naive_holds(*moments[moment], fact) for moments in shown}
                        told = surely(firsts, script, moment, fact)
                        self.assertIs(type(told), {(True,): Sure, (False,): Never}.get(tuple(holds), Both))
                        self.judged(firsts, script, moment, fact, told)

    def judged(self, firsts, script, moment, fact, told):
        self.assertIsNone(sure_fault(firsts, script, moment, fact, told))
        if isinstance(told, Both):
            for picture, due in ((told.holds, True), (told.fails, False)):
                self.same(tuple(picture.colours[cell] for cell in picture.marks), tuple(firsts))
                moments = naive_run(picture.colours, picture.ties, picture.marks, script)
                self.assertIs(naive_holds(*moments[moment][:2], fact), due)

    def test_larger_scripts(self):
        chance = random.Random(72)
        for _ in range(150):
            marks = chance.randrange(1, 5)
            firsts = tuple(chance.randrange(3) for _ in range(marks))
            script = [(chance.randrange(marks), chance.randrange(3)) for _ in range(chance.randrange(6))]
            courses = list(courses_of(firsts, script))
            fact = chance.choice(list(all_facts(marks, 3)))
            moment = chance.randrange(len(script) + 1)
            holds = {naive_holds(c[moment], seen_rows(firsts, script, c)[moment], fact) for c in courses}
            told = surely(firsts, script, moment, fact)
            self.assertIs(type(told), {(True,): Sure, (False,): Never}.get(tuple(holds), Both))
            self.judged(firsts, script, moment, fact, told)

    def test_lists_and_tuples_alike(self):
        self.assertEqual(surely([0, 1], [[0, 1]], 1, ["one", 0, 1]), surely((0, 1), ((0, 1),), 1, ("one", 0, 1)))

    def test_12_pours_into_4_marks(self):
        script = [(2, 0), (2, 1), (0, 0), (3, 1), (0, 1), (2, 0), (2, 1), (1, 0), (3, 0), (0, 0), (0, 1), (0, 0)]
        firsts = (1, 1, 1, 0)
        told = surely(firsts, script, 12, ("one", 0, 3))
        self.assertIs(type(told), Both)
        self.judged(firsts, script, 12, ("one", 0, 3), told)
        self.assertEqual(surely(firsts, script, 12, ("colour", 0, 0)), Sure())

    def test_errors(self):
        for action in (surely, lambda *given: sure_fault(*given, None)):
            for thing in (*NO_SEQUENCES, (), (0,) * 5):
                self.fails(BadFirsts, (0,), action, thing, None, None, None)
            self.fails(BadFirsts, (1,), action, (0, True), None, None, None)
            for thing in (*NO_SEQUENCES, ((0, 0),) * 13):
                self.fails(BadScript, (0, "many"), action, (0, 0), thing, None, None)
            for thing in (-1, 2, *NO_NUMBERS):
                self.fails(BadMoment, (thing,), action, (0, 0), ((0, 1),), thing, None)
            for thing in wrong_facts(2):
                self.fails(BadFact, (thing,), action, (0, 0), ((0, 1),), 1, thing)


class Fault(Case):
    def judged(self, word, told, firsts=(0, 1), fact=("one", 0, 1), moment=2):
        self.gives(word, lambda *given: sure_fault(*given, told), firsts, ((0, 1), (0, 2)), moment, fact)

    def test_told(self):
        for thing in (None, True, False, 0, (), "Sure", Sure, Picture([0, 1], [], [0, 1])):
            self.judged("told", thing)

    def test_verdict(self):
        self.judged("verdict", Sure())
        self.judged("verdict", Never())
        self.judged("verdict", Never(), fact=("colour", 0, 2))
        self.judged(None, Sure(), fact=("colour", 0, 2))
        self.judged("verdict", Sure(), fact=("colour", 0, 1))
        self.judged(None, Never(), fact=("colour", 0, 1))
        self.judged(None, Never(), moment=0)
        self.judged("verdict", Sure(), moment=0)

    def test_both(self):
        one, apart = Picture([0, 1], [(0, 1)], [0, 1]), Picture([7, 0, 1], [], [1, 2])
        self.judged(None, Both(one, apart))
        self.judged(None, Both(one, apart), moment=1)
        for wrong in (Picture([0, 1], [], [0]), Picture([0, 1], [], [1, 0]), Picture([0, 1, 1], [], [0, 1, 2])):
            self.judged("firsts", Both(wrong, apart))
            self.judged("firsts", Both(one, wrong))
            self.judged("firsts", Both(apart, wrong))
        self.judged("holds", Both(apart, one))
        self.judged("holds", Both(apart, apart))
        self.judged("fails", Both(one, one))
        # where the fact is sure, there are no two such pictures
        self.judged("fails", Both(one, apart), fact=("colour", 0, 2))
        self.judged("holds", Both(one, apart), fact=("colour", 0, 1))


class Rows(Case):
    def test_examples(self):
        self.gives(((0, 1),), rows_at, (0, 1), ((0, 1), (0, 2)), 0)
        self.gives(((1, 1),), rows_at, (0, 1), ((0, 1), (0, 2)), 1)
        self.gives(((2, 1), (2, 2)), rows_at, (0, 1), ((0, 1), (0, 2)), 2)
        self.gives(((2, 1), (2, 2)), end_rows, (0, 1), ((0, 1), (0, 2)))
        self.gives(((5,),), end_rows, (5,), ())

    def test_all_small_pictures(self):
        for firsts in ((0, 0), (0, 1)):
            for script in all_scripts(2, 3, 2):
                shown = [[moment[1] for moment in moments] for moments in runs(firsts, script, 1, 3)]
                for moment in range(3):
                    self.same(rows_at(firsts, script, moment), tuple(sorted({rows[moment] for rows in shown})))
                self.same(end_rows(firsts, script), rows_at(firsts, script, 2))

    def test_courses(self):
        chance = random.Random(73)
        for _ in range(150):
            marks = chance.randrange(1, 5)
            firsts = tuple(chance.randrange(3) for _ in range(marks))
            script = [(chance.randrange(marks), chance.randrange(3)) for _ in range(chance.randrange(8))]
            seen = [seen_rows(firsts, script, course) for course in courses_of(firsts, script)]
            for moment in range(len(script) + 1):
                self.same(rows_at(firsts, script, moment), tuple(sorted({rows[moment] for rows in seen})))
            self.same(end_rows(firsts, script), tuple(sorted({rows[-1] for rows in seen})))

    def test_moments(self):
        for thing in (-1, 2, *NO_NUMBERS):
            self.fails(BadMoment, (thing,), rows_at, (0, 0), ((0, 1),), thing)


class Joining(Case):
    def test_examples(self):
        self.gives((1, None), joining_moments, (0, 1), ((0, 1), (0, 2)), 0, 1)
        self.gives((1, None), joining_moments, (0, 1), ((0, 1), (0, 2)), 1, 0)
        self.gives((0, None), joining_moments, (0, 0), (), 0, 1)
        self.gives((None,), joining_moments, (0, 1), ((0, 2), (1, 2))[:1], 0, 1)
        self.gives((2, None), joining_moments, (0, 1), ((0, 2), (1, 2), (1, 2)), 0, 1)
        for mark in range(2):
            self.gives((0,), joining_moments, (0, 1), ((0, 1),), mark, mark)

    def test_all_small_pictures(self):
        for firsts in ((0, 0), (0, 1), (0, 1, 0)):
            for script in list(all_scripts(len(firsts), 3, 2))[::len(firsts)]:
                due = set()
                for moments in runs(firsts, script, 1, 3):
                    due.add(next((t for t, moment in enumerate(moments) if moment[0][0] == moment[0][1]), None))
                self.same(joining_moments(firsts, script, 0, 1), none_last(due))

    def test_courses(self):
        chance = random.Random(74)
        for _ in range(150):
            marks = chance.randrange(1, 5)
            firsts = tuple(chance.randrange(2) for _ in range(marks))
            script = [(chance.randrange(marks), chance.randrange(2)) for _ in range(chance.randrange(9))]
            courses = list(courses_of(firsts, script))
            for one, other in itertools.product(range(marks), repeat=2):
                due = {next((t for t, parting in enumerate(c) if parting[one] == parting[other]), None) for c in courses}
                self.same(joining_moments(firsts, script, one, other), none_last(due))

    def test_no_mark(self):
        for thing in (-1, 2, *NO_NUMBERS):
            self.fails(NoMark, (thing,), joining_moments, (0, 0), (), thing, None)
            self.fails(NoMark, (thing,), joining_moments, (0, 0), (), 1, thing)


class EndColours(Case):
    def test_examples(self):
        # tied to nothing, or in the patch of mark 0 from the beginning
        self.gives((0, 2), end_colours, (0, 1), ((0, 2),), 0)
        self.gives((1,), end_colours, (0, 1), ((0, 2),), 1)
        self.gives((2,), end_colours, (0, 1), ((0, 2),), 2)
        self.gives((2, 3), end_colours, (0, 1), ((0, 2), (0, 3)), 2)
        self.gives((9,), end_colours, (0, 1), ((0, 2), (0, 3)), 9)
        self.gives((0, 2, 5), end_colours, (0, 1), ((0, 2), (1, 2), (1, 5)), 0)
        self.gives((9, 16, 33), end_colours, (9, 9), ((0, 33), (1, 16)), 9)
        # an idle pour takes nothing
        self.gives((0,), end_colours, (0, 1), ((0, 0),), 0)

    def test_all_small_pictures(self):
        for firsts in ((0,), (0, 0), (0, 1)):
            for script in list(all_scripts(len(firsts), 3, 2))[::2]:
                due = {}
                for more in itertools.product(range(3), repeat=2):
                    for ties in all_ties(len(firsts) + 2):
                        colours = (*firsts, *more)
                        behind = naive_run(colours, ties, range(len(firsts)), script)[-1][2]
                        for cell in range(len(firsts), len(colours)):
                            due.setdefault(colours[cell], set()).add(behind[cell])
                for colour in range(3):
                    self.same(end_colours(firsts, script, colour), tuple(sorted(due[colour])))

    def test_larger_pictures_show_no_others(self):
        chance = random.Random(75)
        for _ in range(100):
            marks = chance.randrange(1, 5)
            cells = chance.randrange(marks + 1, 9)
            colours = [chance.randrange(3) for _ in range(cells)]
            ties = [tie for tie in itertools.combinations(range(cells), 2) if chance.random() < 0.35]
            script = [(chance.randrange(marks), chance.randrange(4)) for _ in range(6)]
            behind = naive_run(colours, ties, range(marks), script)[-1][2]
            for cell in range(marks, cells):
                self.assertIn(behind[cell], end_colours(colours[:marks], script, colours[cell]))

    def test_errors(self):
        for thing in (-1, 100, *NO_NUMBERS):
            self.fails(BadColour, (thing,), end_colours, (0, 0), (), thing)


class Errors(Case):
    def test_first_colours_then_script(self):
        actions = (
            lambda *given: rows_at(*given, None), end_rows, lambda *given: joining_moments(*given, None, None),
            lambda *given: end_colours(*given, None),
        )
        for action in actions:
            for thing in (*NO_SEQUENCES, (), (0,) * 5):
                self.fails(BadFirsts, (0,), action, thing, None)
            for thing in (-1, 100, *NO_NUMBERS):
                self.fails(BadFirsts, (1,), action, (0, thing), None)
            for thing in (*NO_SEQUENCES, ((0, 0),) * 13):
                self.fails(BadScript, (0, "many"), action, (0, 0), thing)
            self.fails(BadScript, (1, "pour"), action, (0, 0), ((0, 0), (0,)))
            self.fails(BadScript, (0, "mark"), action, (0, 0), ((False, 100),))
            self.fails(BadScript, (0, "colour"), action, (0, 0), ((1, 100),))
