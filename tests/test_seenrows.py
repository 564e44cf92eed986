"""[8.1], [8.2]: sights, and the courses that fit one."""

import itertools
import random

from spreadhues.courses import courses_of
from spreadhues.errors import BadFirsts, BadSight
from spreadhues.seenrows import check_sights, fitting_courses, unseeable_moment
from tests.helpers import NO_NUMBERS, NO_SEQUENCES, Case, all_scripts, all_ties, naive_run
from tests.webs import seen_rows

SIGHT = (((0, 1), (0, 2)), ((0, 1), (1, 1), (2, 2)))
EMPTY = ((), ((0, 1),))
ACTIONS = (
    check_sights, lambda firsts, sights: list(fitting_courses(firsts, sights[0])),
    lambda firsts, sights: unseeable_moment(firsts, sights[0]),
)


class Sights(Case):
    def test_what_is_returned(self):
        self.gives((), check_sights, (0, 1), ())
        self.gives((SIGHT,), check_sights, (0, 1), (SIGHT,))
        self.gives((SIGHT, EMPTY, SIGHT), check_sights, (0, 1), (SIGHT, EMPTY, SIGHT))
        self.gives((((), ((5,),)),), check_sights, (5,), (((), ((5,),)),))

    def test_first_colours(self):
        for action in ACTIONS:
            for thing in (*NO_SEQUENCES, (), (0,) * 5):
                self.fails(BadFirsts, (0,), action, thing, (None,))
            for thing in (-1, 100, *NO_NUMBERS):
                self.fails(BadFirsts, (1,), action, (0, thing), (None,))

    def test_many(self):
        for thing in (*NO_SEQUENCES, (SIGHT,) * 4):
            self.fails(BadSight, (0, "many"), check_sights, (0, 1), thing)
        for most in range(4):
            self.gives((SIGHT,) * most, check_sights, (0, 1), (SIGHT,) * most, most)
            self.fails(BadSight, (0, "many"), check_sights, (0, 1), (SIGHT,) * (most + 1), most)

    def test_words(self):
        for action in ACTIONS:
            self.words(action, 0, ())
        self.words(check_sights, 1, (SIGHT,))
        self.words(check_sights, 2, (SIGHT, EMPTY))

    def words(self, action, index, ahead):
        def wrong(word, sight):
            self.fails(BadSight, (index, word), action, (0, 1), (*ahead, sight))

        for thing in (*NO_SEQUENCES, (), ((),), (*EMPTY, 0)):
            wrong("sight", thing)
        for thing in (*NO_SEQUENCES, ((0, 0),) * 13, ((2, 0),), ((0, 100),), ((0, True),), ((False, 0),), ((0,),)):
            wrong("script", (thing, None))
        rows = SIGHT[1]
        for thing in (*NO_SEQUENCES, (), rows[:2], (*rows, (0, 0)), (None, *rows[1:])):
            wrong("rows", (SIGHT[0], thing))
        for thing in (*NO_SEQUENCES, (), (0,), (0, 1, 2), (0, 100), (-1, 0)):
            wrong("rows", (SIGHT[0], (*rows[:2], thing)))
        for thing in NO_NUMBERS:
            wrong("rows", (SIGHT[0], (rows[0], (thing, 0), rows[2])))
            wrong("rows", ((), ((0, thing),)))
        for row in ((1, 1), (0, 0), (1, 0)):
            wrong("firsts", (SIGHT[0], (row, *rows[1:])))

    def test_two_faults(self):
        self.fails(BadSight, (0, "rows"), check_sights, (0, 1), (((), ((5, 5), (5,))), None))
        self.fails(BadSight, (0, "script"), check_sights, (0, 1), ((None, None), None))
        self.fails(BadSight, (0, "firsts"), check_sights, (0, 1), (((), ((5, 5),)), None))

    def test_lists_that_change_later_have_no_effect(self):
        sights = [[[[0, 1], [0, 2]], [[0, 1], [1, 1], [2, 2]]]]
        told = check_sights([0, 1], sights)
        sights[0][0][0][1], sights[0][1][2][0] = 9, 9
        self.same(told, (SIGHT,))


class Fitting(Case):
    def test_examples(self):
        self.yields((((0, 1), (0, 0), (0, 0)),), fitting_courses, (0, 1), SIGHT)
        self.yields((((0, 1),),), fitting_courses, (0, 1), EMPTY)
        self.yields((((0, 0),), ((0, 1),)), fitting_courses, (5, 5), ((), ((5, 5),)))
        self.yields((), fitting_courses, (0, 1), (((0, 1),), ((0, 1), (1, 0))))
        self.gives(None, unseeable_moment, (0, 1), SIGHT)
        self.gives(None, unseeable_moment, (0, 1), EMPTY)
        self.gives(1, unseeable_moment, (0, 1), (((0, 1),), ((0, 1), (1, 0))))
        # at the second pour mark 1 shows that it was joined, at the third one that it was not
        sight = (((0, 1), (0, 2), (0, 3)), ((0, 1), (1, 1), (2, 2), (3, 2)))
        self.gives(3, unseeable_moment, (0, 1), sight)
        self.yields((), fitting_courses, (0, 1), sight)

    def test_all_small_sights(self):
        """All rows of colours that marks could show along small scripts, against all courses."""
        rows = list(itertools.product(range(3), repeat=2))
        for firsts in ((0, 0), (0, 1)):
            for script in all_scripts(2, 3, 2):
                courses = list(courses_of(firsts, script))
                for shown in itertools.product(rows, repeat=2):
                    self.check(firsts, (script, (firsts, *shown)), courses)

    def check(self, firsts, sight, courses):
        script, rows = sight
        seen = [seen_rows(firsts, script, course) for course in courses]
        fits = [course for course, shown in zip(courses, seen) if tuple(shown) == rows]
        self.same(tuple(fitting_courses(firsts, sight)), tuple(fits))
        moments = [t for t in range(len(rows)) if not any(tuple(shown[:t + 1]) == rows[:t + 1] for shown in seen)]
        self.same(unseeable_moment(firsts, sight), moments[0] if moments else None)

    def test_what_pictures_show_is_seeable(self):
        """Exactly the sights that some small picture shows are fitted by a course."""
        rows = list(itertools.product(range(3), repeat=2))
        for firsts in ((0, 0), (0, 1)):
            for script in list(all_scripts(2, 3, 2))[::3]:
                shown = set()
                for more in itertools.product(range(3), repeat=2):
                    for ties in all_ties(4):
                        moments = naive_run((*firsts, *more), ties, [0, 1], script)
                        shown.add(tuple(moment[1] for moment in moments))
                for behind in itertools.product(rows, repeat=2):
                    sight = (script, (firsts, *behind))
                    self.assertEqual(unseeable_moment(firsts, sight) is None, sight[1] in shown)

    def test_four_marks_and_12_pours(self):
        chance = random.Random(82)
        for _ in range(25):
            firsts = tuple(chance.randrange(2) for _ in range(4))
            script = tuple((chance.randrange(4), chance.randrange(2)) for _ in range(12))
            courses = list(courses_of(firsts, script))
            rows = tuple(seen_rows(firsts, script, chance.choice(courses)))
            self.check(firsts, (script, rows), courses)
            spoilt = (*rows[:6], tuple(1 - colour for colour in rows[6]), *rows[7:])
            self.check(firsts, (script, spoilt), courses)

    def test_the_lot_is_told_by_the_changed_colours(self):
        """If the next pour is not idle, the marks that it changes are the lot of its mark, in each fitting course."""
        for firsts in ((0, 0, 1), (0, 0, 0)):
            for script in list(all_scripts(3, 2, 3))[::3]:
                for course in courses_of(firsts, script):
                    rows = tuple(seen_rows(firsts, script, course))
                    for other in fitting_courses(firsts, (script, rows)):
                        for t, (mark, colour) in enumerate(script):
                            if rows[t][mark] != colour:
                                changed = [k for k in range(3) if rows[t][k] != rows[t + 1][k]]
                                self.assertEqual(changed, [k for k in range(3) if other[t][k] == other[t][mark]])
