"""[6.5]: whether one picture has the told courses of several scripts."""

import itertools
import random

from spreadhues.courses import courses_of
from spreadhues.errors import BadTold, TooMany
from spreadhues.fates import fates_of, whole_picture
from spreadhues.pictures import Picture
from spreadhues.running import course_of
from spreadhues.together import Had, NotHad, had_fault, had_together
from tests.helpers import Case, all_scripts, all_ties, naive_run
from tests.test_fates import EXAMPLE, chance_told, told_with_fates
from tests.webs import naive_lack, naive_whole


def naive_course(colours, ties, marks, script):
    return tuple(moment[0] for moment in naive_run(colours, ties, marks, script))


class Together(Case):
    def test_examples(self):
        self.assertEqual(had_together((0, 0), EXAMPLE), Had(Picture([0, 0, 0, 1], [(0, 3), (1, 3), (2, 3)], [0, 1])))
        # one pour joins the marks and another script's pour of this colour does not
        one, apart = (((0, 1),), ((0, 1), (0, 0))), (((0, 1),), ((0, 1), (0, 1)))
        self.gives(NotHad(0, 1), had_together, (0, 1), (one, apart))
        self.gives(NotHad(1, 1), had_together, (0, 1), (apart, one))
        self.gives(NotHad(1, 1), had_together, (0, 1), (apart, one, one))

    def test_other_starts(self):
        one, apart = ((), ((0, 0),)), ((), ((0, 1),))
        self.gives(NotHad(1, 0), had_together, (0, 0), (one, apart, one))
        self.gives(NotHad(2, 0), had_together, (0, 0), (one, one, apart))
        # ahead of too many fates, and behind all items
        told = told_with_fates((2, 3))
        self.fails(TooMany, (60,), had_together, (0,) * 4, told)
        other = ((0, 0, 2, 3),) * (len(told[2][0]) + 1)
        self.gives(NotHad(2, 0), had_together, (0,) * 4, (*told[:2], (told[2][0], other)))
        self.fails(BadTold, (2, "couple"), had_together, (0, 0), (one, apart, None))

    def test_the_whole_picture_is_returned(self):
        for told in (told_with_fates((2,)), EXAMPLE):
            firsts = (0,) * len(told[0][1][0])
            answer = had_together(firsts, told)
            self.assertIs(type(answer), Had)
            self.assertIsNone(had_fault(firsts, told, answer.picture))

    def test_as_the_words_tell(self):
        chance = random.Random(67)
        lacks = 0
        for _ in range(250):
            firsts, told = chance_told(chance, chance.randrange(2, 4), 3, 4, chance.randrange(1, 4))
            if len(fates_of(firsts, told)) > 24:
                continue
            lack = naive_lack(firsts, told)
            lacks += lack is not None
            if lack is None:
                colours, ties, marks = naive_whole(firsts, told)[0]
                for script, course in told:
                    self.same(naive_course(colours, ties, marks, script), course)
                self.assertEqual(had_together(firsts, told), Had(Picture(colours, ties, marks)))
            else:
                self.gives(NotHad(*lack), had_together, firsts, told)
        self.assertGreater(lacks, 10)

    def test_what_small_pictures_have_is_had(self):
        """All pictures of two marks and two cells more: what they have is had, and what is not had none has."""
        scripts = [script for pours in (1, 2) for script in all_scripts(2, 2, pours)]
        for firsts in ((0, 0), (0, 1)):
            had = {}
            for more in itertools.product(range(2), repeat=2):
                for ties in all_ties(4):
                    courses = [naive_course(firsts + more, ties, [0, 1], script) for script in scripts]
                    for a, b in itertools.combinations_with_replacement(range(len(scripts)), 2):
                        had.setdefault((scripts[a], scripts[b]), set()).add((courses[a], courses[b]))
            for (one, other), found in had.items():
                for pair in itertools.product(list(courses_of(firsts, one)), list(courses_of(firsts, other))):
                    told = tuple(zip((one, other), pair))
                    answer = had_together(firsts, told)
                    if pair in found:
                        self.assertIs(type(answer), Had)
                    if isinstance(answer, Had):
                        self.assertIsNone(had_fault(firsts, told, answer.picture))

    def test_courses_of_larger_pictures_are_had(self):
        chance = random.Random(68)
        for _ in range(250):
            marks, many = chance.randrange(1, 5), chance.randrange(1, 4)
            cells = chance.randrange(marks, 9)
            ties = [tie for tie in itertools.combinations(range(cells), 2) if chance.random() < 0.4]
            picture = Picture([chance.randrange(3) for _ in range(cells)], ties, chance.sample(range(cells), marks))
            scripts = [[(chance.randrange(marks), chance.randrange(4)) for _ in range(5)] for _ in range(many)]
            told = [(script, course_of(picture, script)) for script in scripts]
            firsts = [picture.colours[cell] for cell in picture.marks]
            try:
                answer = had_together(firsts, told)
            except TooMany:
                continue
            self.assertIs(type(answer), Had)
            self.assertIsNone(had_fault(firsts, told, answer.picture))
            self.assertIsNone(had_fault(firsts, told, picture))

    def test_one_script_lacks_nothing(self):
        chance = random.Random(69)
        for _ in range(100):
            firsts, told = chance_told(chance, 4, 3, 12, 1)
            self.assertIs(type(had_together(firsts, told)), Had)


class Fault(Case):
    def test_words(self):
        right = whole_picture((0, 0), EXAMPLE)
        self.gives(None, had_fault, (0, 0), EXAMPLE, right)
        self.gives("marks", had_fault, (0, 0), EXAMPLE, Picture([0, 0, 0, 1], right.ties, [0]))
        self.gives("marks", had_fault, (0, 0), EXAMPLE, Picture([0, 5, 0, 1], right.ties, [0, 1, 2]))
        self.gives("firsts", had_fault, (0, 0), EXAMPLE, Picture([0, 1, 0, 1], right.ties, [0, 1]))
        self.gives("firsts", had_fault, (0, 0), EXAMPLE, Picture([0, 0, 0, 1], right.ties, [3, 1]))
        self.gives("course", had_fault, (0, 0), EXAMPLE, Picture([0, 0, 0, 1], [(0, 3)], [0, 1]))
        self.gives("course", had_fault, (0, 0), EXAMPLE, Picture([0, 0, 0, 1], [(0, 1)], [0, 1]))
        # a second told script that goes otherwise
        told = (*EXAMPLE, (((0, 1), (1, 1)), ((0, 1), (0, 1), (0, 1))))
        self.gives("course", had_fault, (0, 0), told, right)

    def test_all_small_pictures(self):
        for more in itertools.product(range(3), repeat=2):
            for ties in all_ties(4):
                picture = Picture((0, 0, *more), ties, [0, 1])
                right = naive_course(picture.colours, ties, [0, 1], EXAMPLE[0][0]) == EXAMPLE[0][1]
                self.same(had_fault((0, 0), EXAMPLE, picture), None if right else "course")

    def test_errors(self):
        one, apart = ((), ((0, 0),)), ((), ((0, 1),))
        self.fails(BadTold, (1, "start"), had_fault, (0, 0), (one, apart), None)
        self.fails(BadTold, (0, "many"), had_fault, (0, 0), (), None)
        # no bound of fates
        told = told_with_fates((2, 3))
        self.gives(None, had_fault, (0,) * 4, told, Picture([0] * 4, [], [0, 1, 2, 3]))
        self.gives("course", had_fault, (0,) * 4, told, Picture([0] * 4, [(0, 1)], [0, 1, 2, 3]))
