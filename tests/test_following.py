"""[2.6], [2.7]: courses that follow the rule, and the colours along them."""

import itertools

from spreadhues.errors import BadCourse, BadFirsts, BadScript
from spreadhues.following import check_course, joinings_of, seen_along
from spreadhues.lots import all_partings
from spreadhues.pictures import Picture
from spreadhues.running import run_script
from tests.helpers import NO_NUMBERS, NO_SEQUENCES, Case, all_pictures, all_scripts, all_ties

ACTIONS = (check_course, seen_along, joinings_of)
APART = (0, 1, 2)


def rule_follows(firsts, script, course):
    """The rule of [2.6], told lot by lot: any lots of the poured colour join the lot of the mark, nothing else."""
    marks = range(len(firsts))

    def lots(parting):
        return {frozenset(k for k in marks if parting[k] == lead) for lead in parting}

    if any(firsts[k] != firsts[lead] for k, lead in enumerate(course[0])):
        return False
    shown = {lot: firsts[min(lot)] for lot in lots(course[0])}
    for (mark, colour), parting in zip(script, course[1:]):
        own = next(lot for lot in shown if mark in lot)
        others = [lot for lot in shown if lot != own and shown[lot] == colour and shown[own] != colour]
        allowed = []
        for many in range(len(others) + 1):
            for joining in itertools.combinations(others, many):
                kept = {lot: shown[lot] for lot in shown if lot != own and lot not in joining}
                kept[own.union(*joining)] = colour
                allowed.append(kept)
        fitting = [kept for kept in allowed if set(kept) == lots(parting)]
        if not fitting:
            return False
        shown = fitting[0]
    return True


def follows(firsts, script, course):
    try:
        return check_course(firsts, script, course) == course
    except BadCourse:
        return False


class Following(Case):
    def test_a_course_that_follows(self):
        firsts, script = (0, 1, 0), ((0, 1), (2, 1), (2, 2))
        for course in (
            (APART, APART, APART, APART),
            (APART, (0, 0, 2), (0, 0, 2), (0, 0, 2)),
            (APART, (0, 0, 2), (0, 0, 0), (0, 0, 0)),
            (APART, APART, (0, 1, 0), (0, 1, 0)),
            (APART, APART, (0, 1, 1), (0, 1, 1)),
            ((0, 1, 0), (0, 0, 0), (0, 0, 0), (0, 0, 0)),
        ):
            self.gives(course, check_course, firsts, script, course)

    def test_one_mark_and_no_pours(self):
        self.gives(((0,),), check_course, (4,), (), ((0,),))
        self.gives(((0,), (0,)), check_course, (4,), ((0, 5),), ((0,), (0,)))
        self.gives(((4,),), seen_along, (4,), (), ((0,),))
        self.gives((), joinings_of, (4,), (), ((0,),))

    def test_many(self):
        for action in ACTIONS:
            for thing in (*NO_SEQUENCES, (), ((0, 1),), ((0, 1),) * 3, (None,) * 3):
                self.fails(BadCourse, (0, "many"), action, (0, 1), ((0, 1),), thing)

    def test_parting(self):
        wrong = [*NO_SEQUENCES, (), (0,), (0, 1, 2), (1, 1), (0, 2), (0, -1)]
        wrong += [(0, thing) for thing in NO_NUMBERS]
        for action in ACTIONS:
            for thing in wrong:
                self.fails(BadCourse, (0, "parting"), action, (0, 1), ((0, 1),), (thing, None))
                self.fails(BadCourse, (1, "parting"), action, (0, 1), ((0, 1), (0, 1)), ((0, 1), thing, None))

    def test_colour(self):
        for action in ACTIONS:
            self.fails(BadCourse, (0, "colour"), action, (0, 1), ((0, 1),), ((0, 0), None))
            self.fails(BadCourse, (0, "colour"), action, (5, 5, 6), (), ((0, 0, 0),))
            self.fails(BadCourse, (0, "colour"), action, (5, 6, 5), (), ((0, 1, 1),))

    def test_parted(self):
        for action in ACTIONS:
            self.fails(BadCourse, (1, "parted"), action, (5, 5), ((0, 1),), ((0, 0), (0, 1)))
            self.fails(BadCourse, (2, "parted"), action, (5, 5), ((0, 1), (1, 2), (0, 3)),
                       ((0, 0), (0, 0), (0, 1), None))
            # both words would apply: mark 1 leaves mark 0 and joins mark 2
            self.fails(BadCourse, (1, "parted"), action, (5, 5, 5), ((0, 5),), ((0, 0, 2), (0, 1, 1)))

    def test_joined(self):
        for action in ACTIONS:
            # another colour
            self.fails(BadCourse, (1, "joined"), action, (0, 1), ((0, 2),), ((0, 1), (0, 0)))
            # an idle pour
            self.fails(BadCourse, (1, "joined"), action, (5, 5), ((0, 5),), ((0, 1), (0, 0)))
            # two lots of the poured colour join each other alone
            self.fails(BadCourse, (1, "joined"), action, (0, 1, 1), ((0, 1),), (APART, (0, 1, 1)))
            # one lot that may join, one that may not
            self.fails(BadCourse, (1, "joined"), action, (0, 1, 2), ((0, 1),), (APART, (0, 0, 0)))
            # the pours of the colours ahead count
            self.fails(BadCourse, (2, "joined"), action, (0, 1), ((1, 2), (0, 1), (0, 0)), ((0, 1), (0, 1), (0, 0), 7))

    def test_two_words_at_one_moment_and_two_moments(self):
        for action in ACTIONS:
            self.fails(BadCourse, (0, "parting"), action, (0, 1), ((0, 2),), ((1, 1), (0, 0)))
            self.fails(BadCourse, (1, "joined"), action, (0, 1), ((0, 2), (0, 2)), ((0, 1), (0, 0), (0, 1)))

    def test_first_colours_then_script_then_course(self):
        for action in ACTIONS:
            for thing in (*NO_SEQUENCES, (), (0,) * 5):
                self.fails(BadFirsts, (0,), action, thing, None, None)
            for thing in (-1, 100, *NO_NUMBERS):
                self.fails(BadFirsts, (1,), action, (0, thing, None), None, None)
            for thing in (*NO_SEQUENCES, ((0, 0),) * 13):
                self.fails(BadScript, (0, "many"), action, (0, 0), thing, None)
            self.fails(BadScript, (1, "pour"), action, (0, 0), ((0, 0), 5), None)
            for thing in (-1, 2, *NO_NUMBERS):
                self.fails(BadScript, (0, "mark"), action, (0, 0), ((thing, 100),), None)
            for thing in (-1, 100, *NO_NUMBERS):
                self.fails(BadScript, (0, "colour"), action, (0, 0), ((1, thing),), None)

    def test_all_sequences_of_partings(self):
        for marks, pours in ((1, 2), (2, 3), (3, 1)):
            partings = list(all_partings(marks))
            for firsts in itertools.product(range(2), repeat=marks):
                for script in all_scripts(marks, 3, pours):
                    for course in itertools.product(partings, repeat=pours + 1):
                        self.assertEqual(follows(firsts, script, course), rule_follows(firsts, script, course))

    def test_three_and_four_marks(self):
        script = ((0, 1), (1, 0), (2, 1))
        for course in itertools.product(list(all_partings(3)), repeat=4):
            self.assertEqual(follows((0, 1, 0), script, course), rule_follows((0, 1, 0), script, course))
        for course in itertools.product(list(all_partings(4)), repeat=3):
            given = ((0, 1, 1, 0), ((0, 1), (3, 1)), course)
            self.assertEqual(follows(*given), rule_follows(*given))

    def test_a_list_that_changes_later_has_no_effect(self):
        course = [[0, 1], [0, 0]]
        told = check_course([0, 1], [[0, 1]], course)
        course[0][1] = 0
        self.same(told, ((0, 1), (0, 0)))


class Along(Case):
    def test_seen_along(self):
        firsts, script = (0, 1, 0), ((0, 1), (2, 1), (2, 2))
        self.gives(((0, 1, 0), (1, 1, 0), (1, 1, 1), (2, 2, 2)), seen_along, firsts, script,
                   (APART, (0, 0, 2), (0, 0, 0), (0, 0, 0)))
        self.gives(((0, 1, 0), (1, 1, 0), (1, 1, 1), (1, 1, 2)), seen_along, firsts, script, (APART,) * 4)

    def test_joinings_of(self):
        firsts, script = (0, 1, 1), ((0, 1), (2, 1), (1, 2), (0, 2))
        self.gives(((1, 0, (1, 2)),), joinings_of, firsts, script, (APART,) + ((0, 0, 0),) * 4)
        self.gives(((1, 0, (2,)), (4, 0, (1,))), joinings_of, firsts, script,
                   (APART, (0, 1, 0), (0, 1, 0), (0, 1, 0), (0, 0, 0)))
        self.gives((), joinings_of, firsts, script, (APART,) * 5)

    def test_lead_is_told_of_the_moment_before(self):
        # the lot of mark 2 joins the lot of mark 3, whose least mark is 1
        self.gives(((1, 1, (0, 2)),), joinings_of, (7, 5, 7, 5), ((3, 7),), ((0, 1, 2, 1), (0, 0, 0, 0)))
        self.gives(((1, 1, (0,)),), joinings_of, (7, 5, 7, 5), ((3, 7),), ((0, 1, 0, 1), (0, 0, 0, 0)))

    def test_runs_follow_and_show_what_the_rule_tells(self):
        for marks in ([0], [1, 0], [2, 1, 0]):
            for picture in all_pictures(3, 3, marks):
                firsts = tuple(picture.colours[cell] for cell in marks)
                for script in all_scripts(len(marks), 2, 2):
                    run = run_script(picture, script)
                    self.same(check_course(firsts, script, run.course), run.course)
                    self.same(seen_along(firsts, script, run.course), run.seen)
                    self.check_joinings(firsts, script, run.course)

    def check_joinings(self, firsts, script, course):
        due = []
        for moment in range(1, len(course)):
            before, behind, mark = course[moment - 1], course[moment], script[moment - 1][0]
            joined = sorted({before[k] for k in range(len(firsts)) if before[k] != behind[k] or behind[k] == behind[mark]})
            joined = [lead for lead in joined if behind[lead] == behind[mark] and lead != before[mark]]
            if before != behind:
                due.append((moment, before[mark], tuple(joined)))
        self.same(joinings_of(firsts, script, course), tuple(due))

    def test_each_course_is_had_by_some_picture(self):
        """For two marks: the courses that are let are just those of pictures with at most two cells more."""
        partings = list(all_partings(2))
        for firsts in ((0, 0), (0, 1)):
            for script in all_scripts(2, 3, 2):
                had = set()
                for more in itertools.product(range(3), repeat=2):
                    for ties in all_ties(4):
                        had.add(run_script(Picture(firsts + more, ties, [0, 1]), script).course)
                let = {course for course in itertools.product(partings, repeat=3) if follows(firsts, script, course)}
                self.assertEqual(had, let)
