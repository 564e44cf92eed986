"""[6.1]: all courses of a script."""

import itertools
import random

from spreadhues.courses import courses_of
from spreadhues.errors import BadFirsts, BadScript
from spreadhues.following import check_course
from spreadhues.lots import all_partings
from spreadhues.pictures import Picture
from spreadhues.running import run_script
from tests.helpers import NO_NUMBERS, NO_SEQUENCES, Case, all_scripts, all_ties, naive_run
from tests.test_following import rule_follows


class Courses(Case):
    def test_examples(self):
        self.yields((((0,),),), courses_of, (5,), ())
        self.yields((((0,), (0,), (0,)),), courses_of, (5,), ((0, 5), (0, 6)))
        self.yields((((0, 1),),), courses_of, (5, 6), ())
        self.yields((((0, 0),), ((0, 1),)), courses_of, (5, 5), ())
        self.yields((((0, 1), (0, 0)), ((0, 1), (0, 1))), courses_of, (5, 6), ((0, 6),))
        self.yields((((0, 1), (0, 1)),), courses_of, (5, 6), ((0, 5),))
        # at the first pour both, either or none of the others join
        due = [(0, 0, 0), (0, 0, 2), (0, 1, 0), (0, 1, 2)]
        self.yields((((0, 1, 1), (0, 0, 0)), ((0, 1, 1), (0, 1, 1)), *(((0, 1, 2), other) for other in due)),
                    courses_of, (5, 6, 6), ((0, 6),))

    def test_all_small_scripts(self):
        for marks, pours in ((1, 3), (2, 3), (3, 2)):
            partings = list(all_partings(marks))
            for firsts in itertools.product(range(2), repeat=marks):
                for script in all_scripts(marks, 3, pours):
                    due = [c for c in itertools.product(partings, repeat=pours + 1) if rule_follows(firsts, script, c)]
                    self.same(tuple(courses_of(firsts, script)), tuple(due))

    def test_four_marks(self):
        partings = list(all_partings(4))
        for firsts in ((0, 0, 0, 0), (0, 1, 1, 0), (0, 1, 2, 3)):
            for script in (((0, 1), (1, 0)), ((3, 0), (2, 1)), ((0, 3), (0, 2))):
                due = [c for c in itertools.product(partings, repeat=3) if rule_follows(firsts, script, c)]
                self.same(tuple(courses_of(firsts, script)), tuple(due))

    def test_courses_are_those_of_pictures(self):
        """Two marks and two cells more show all courses of two pours, and no picture another one."""
        for firsts in ((0, 0), (0, 1)):
            for script in all_scripts(2, 3, 2):
                had = set()
                for more in itertools.product(range(3), repeat=2):
                    for ties in all_ties(4):
                        moments = naive_run(firsts + more, ties, [0, 1], script)
                        had.add(tuple(moment[0] for moment in moments))
                self.same(tuple(courses_of(firsts, script)), tuple(sorted(had)))

    def test_courses_of_larger_pictures_are_among_them(self):
        chance = random.Random(61)
        for _ in range(200):
            marks = chance.randrange(1, 5)
            cells = chance.randrange(marks, 9)
            ties = [tie for tie in itertools.combinations(range(cells), 2) if chance.random() < 0.35]
            picture = Picture([chance.randrange(3) for _ in range(cells)], ties, chance.sample(range(cells), marks))
            script = [(chance.randrange(marks), chance.randrange(4)) for _ in range(8)]
            firsts = [picture.colours[cell] for cell in picture.marks]
            self.assertIn(run_script(picture, script).course, list(courses_of(firsts, script)))

    def test_12_pours_into_4_marks(self):
        script = [(2, 0), (2, 1), (0, 0), (3, 1), (0, 1), (2, 0), (2, 1), (1, 0), (3, 0), (0, 0), (0, 1), (0, 0)]
        courses = list(courses_of((1, 1, 1, 0), script))
        self.assertEqual(len(courses), 472)
        self.assertEqual(courses, sorted(set(courses)))
        for course in courses:
            self.same(check_course((1, 1, 1, 0), script, course), course)

    def test_idle_pours(self):
        self.yields((((0, 1), (0, 1), (0, 0)), ((0, 1), (0, 1), (0, 1))), courses_of, (5, 6), ((0, 5), (1, 5)))
        self.yields((((0, 0),) * 13, ((0, 1),) * 13), courses_of, (5, 5), ((0, 5), (1, 5)) * 6)

    def test_errors(self):
        for thing in (*NO_SEQUENCES, (), (0,) * 5):
            self.fails(BadFirsts, (0,), courses_of, thing, None)
        for thing in (-1, 100, *NO_NUMBERS):
            self.fails(BadFirsts, (1,), courses_of, (0, thing), None)
        for thing in (*NO_SEQUENCES, ((0, 0),) * 13):
            self.fails(BadScript, (0, "many"), courses_of, (0, 0), thing)
        self.fails(BadScript, (1, "mark"), courses_of, (0, 0), ((0, 0), (2, 0)))
        self.fails(BadScript, (0, "colour"), courses_of, (0, 0), ((0, True), (2, 0)))
