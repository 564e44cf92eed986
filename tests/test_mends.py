"""[11.4] to [11.6]: goals, mends and spoilers."""

import itertools
import random
import time

from spreadhues.edits import edited
from spreadhues.errors import BadEdits, BadGoal, BadScript, LongScript, NotHeld
from spreadhues.mends import check_goal, find_mends, find_spoilers, goal_holds, mends_fault
from spreadhues.pictures import Picture
from tests.helpers import (
    NO_NUMBERS, NO_SEQUENCES, Case, all_pictures, all_scripts, all_wishes, as_lists, chance_picture, naive_came,
    naive_holds, naive_run, wrong_wishes,
)
from tests.test_edits import all_edits

PICTURE = Picture([0, 1, 2, 1], [(0, 1), (1, 2)], [0, 2])
SCRIPT = ((0, 1), (1, 3))
ONE = ("one", 0, 1)
# either of the first two edits joins the marks, the third one parts them again
POOL = (("put", 1, 0, 2), ("paint", 2, 1), ("untie", 0, 1))


def judge(*given):
    return mends_fault(*given, None)


def all_goals(cells, marks, colours, moments):
    for wish in all_wishes(cells, marks, colours):
        yield wish
        yield ("not", wish)
    yield from (("came by", cell, moment) for cell in range(cells) for moment in moments)


def naive_goal(picture, script, goal):
    moments = naive_run(picture.colours, picture.ties, picture.marks, script)
    if goal[0] == "came by":
        came = naive_came(moments, len(picture))[goal[1]]
        return came is not None and came <= goal[2]
    if goal[0] == "not":
        return not naive_holds(moments[-1][2], picture.ties, picture.marks, goal[1])
    return naive_holds(moments[-1][2], picture.ties, picture.marks, goal)


def all_picks(many):
    for length in range(many + 1):
        yield from itertools.combinations(range(many), length)


def naive_judged(picture, script, goal, pool):
    return {
        pick: naive_goal(*edited(picture, script, [pool[index] for index in pick]), goal)
        for pick in all_picks(len(pool))
    }


def proper_parts(pick):
    return [part for length in range(len(pick)) for part in itertools.combinations(pick, length)]


class Goals(Case):
    def test_what_is_returned(self):
        for goal in all_goals(4, 2, 3, (0, 5, 12)):
            self.gives(goal, check_goal, PICTURE, goal)

    def test_wrong_goals(self):
        wrong = [thing for thing in wrong_wishes(4, 2) if thing not in (("not", ("all one",)), ("came by", 0, 1))]
        wrong += [("not", thing) for thing in wrong_wishes(4, 2)]
        wrong += [("not",), ("not", ("all one",), 0), ("not", ("not", ("all one",))), ("not", ("came by", 0, 1))]
        wrong += [("came by",), ("came by", 0), ("came by", 0, 0, 0), ("came", 0, 0), ("came by", 0, 13)]
        wrong += [("came by", thing, 0) for thing in (-1, 4, *NO_NUMBERS)]
        wrong += [("came by", 0, thing) for thing in (-1, 13, *NO_NUMBERS)]
        for thing in wrong:
            self.fails(BadGoal, (thing,), check_goal, PICTURE, thing)
            self.fails(BadGoal, (thing,), goal_holds, PICTURE, SCRIPT, thing)
            for action in (find_mends, judge, find_spoilers):
                self.fails(BadGoal, (thing,), action, PICTURE, SCRIPT, thing, None)

    def test_the_error_bears_the_very_thing(self):
        goal = ["not", ["one", 0, 0]]
        with self.assertRaises(BadGoal) as caught:
            check_goal(PICTURE, goal)
        self.assertIs(caught.exception.goal, goal)

    def test_examples(self):
        self.gives(False, goal_holds, PICTURE, SCRIPT, ONE)
        self.gives(True, goal_holds, PICTURE, SCRIPT, ("not", ONE))
        self.gives(True, goal_holds, PICTURE, ((0, 1), (0, 2)), ONE)
        # the picture behind the whole script counts
        self.gives(False, goal_holds, PICTURE, SCRIPT, ("colour", 1, 2))
        self.gives(True, goal_holds, PICTURE, SCRIPT, ("came by", 1, 1))
        self.gives(False, goal_holds, PICTURE, SCRIPT, ("came by", 1, 0))
        self.gives(True, goal_holds, PICTURE, SCRIPT, ("came by", 0, 0))
        # moments above the length of the script
        self.gives(True, goal_holds, PICTURE, SCRIPT, ("came by", 1, 12))
        self.gives(False, goal_holds, PICTURE, SCRIPT, ("came by", 3, 12))

    def test_all_small_pictures(self):
        for picture in list(all_pictures(3, 2, [0, 2]))[::2]:
            for script in list(all_scripts(2, 3, 2))[::4]:
                for goal in all_goals(3, 2, 3, range(4)):
                    self.same(goal_holds(picture, script, as_lists(goal)), naive_goal(picture, script, goal))

    def test_scripts(self):
        for action in (goal_holds, *(lambda *given, own=own: own(*given, None) for own in (find_mends, judge, find_spoilers))):
            for thing in (*NO_SEQUENCES, ((0, 0),) * 13):
                self.fails(BadScript, (0, "many"), action, PICTURE, thing, None)
            self.fails(BadScript, (1, "pour"), action, PICTURE, ((0, 0), (0,)), None)
            self.fails(BadScript, (0, "mark"), action, PICTURE, ((True, 100),), None)
            self.fails(BadScript, (0, "colour"), action, PICTURE, ((1, True),), None)


class Errors(Case):
    def test_pools(self):
        for action in (find_mends, judge, find_spoilers):
            for thing in (*NO_SEQUENCES, (), (POOL[0],) * 6):
                self.fails(BadEdits, (0, "many"), action, PICTURE, SCRIPT, ONE, thing)
            for word, edit in (
                ("edit", None), ("edit", ("put", 0, 0)), ("cell", ("paint", 4, 100)), ("tie", ("tie", 1, 1)),
                ("index", ("strike", 2)), ("mark", ("put", 2, True, 100)), ("colour", ("put", 2, 0, True)),
            ):
                self.fails(BadEdits, (3, word), action, PICTURE, SCRIPT, ONE, (*POOL, edit, None))
            # ahead of too many pours
            puts = (("put", 0, 0, 0),) * 4
            self.fails(BadEdits, (4, "edit"), action, PICTURE, ((0, 0),) * 12, ONE, (*puts, None))
            for many, puts in ((12, 1), (10, 3), (8, 5)):
                edits = (("put", 0, 0, 0),) * puts + (("strike", 0),) * (5 - puts)
                self.fails(LongScript, (13,), action, PICTURE, ((0, 0),) * many, ONE, edits)
            self.fails(LongScript, (17,), action, PICTURE, ((0, 0),) * 12, ONE, (("put", 0, 0, 0),) * 5)
        for many, puts in ((12, 0), (11, 1), (7, 5)):
            edits = (("put", 0, 0, 0),) * puts + (("strike", 0),) * (5 - puts)
            self.gives((), find_mends, PICTURE, ((0, 0),) * many, ("reached", 3), edits)

    def test_spoilers_of_what_does_not_hold(self):
        self.fails(NotHeld, (ONE,), find_spoilers, PICTURE, SCRIPT, ONE, POOL)
        goal = ["one", 0, 1]
        with self.assertRaises(NotHeld) as caught:
            find_spoilers(PICTURE, SCRIPT, goal, POOL)
        self.assertIs(caught.exception.goal, goal)
        self.fails(BadEdits, (0, "many"), find_spoilers, PICTURE, SCRIPT, ONE, ())


class Mends(Case):
    def test_examples(self):
        self.gives(((0,), (1,)), find_mends, PICTURE, SCRIPT, ONE, POOL)
        # the goal holds without edits
        self.gives(((),), find_mends, PICTURE, SCRIPT, ("not", ONE), POOL)
        self.gives((), find_mends, PICTURE, SCRIPT, ("reached", 3), POOL)
        # the same edit twice
        self.gives(((0,), (1,)), find_mends, PICTURE, SCRIPT, ONE, (POOL[0],) * 2)
        # two edits that need each other, in the order of the pool
        pool = (("tie", 3, 2), ("put", 2, 1, 1), ("strike", 0), ("put", 2, 1, 1))
        self.gives(((0, 1), (0, 3)), find_mends, PICTURE, SCRIPT, ("reached", 3), pool)

    def test_spoilers(self):
        script = ((0, 1), (0, 2))
        self.gives(((0,), (1,)), find_spoilers, PICTURE, script, ONE, (("strike", 0), ("paint", 2, 7), ("paint", 3, 3)))
        self.gives((), find_spoilers, PICTURE, script, ONE, (("paint", 3, 3),))
        # both ways have to be closed
        picture = Picture([0, 1, 2, 1], [(0, 1), (1, 2), (0, 3), (3, 2)], [0, 2])
        self.gives(((0, 1), (0, 2)), find_spoilers, picture, script, ONE, (("untie", 0, 1), ("untie", 2, 3), ("untie", 3, 0)))

    def check(self, picture, script, goal, pool):
        judged = naive_judged(picture, script, goal, pool)
        due = tuple(
            pick for pick, holds in judged.items() if holds and not any(judged[part] for part in proper_parts(pick))
        )
        self.gives(due, find_mends, picture, script, goal, pool)
        self.assertIsNone(mends_fault(picture, script, goal, pool, due))
        if judged[()]:
            self.same(due, ((),))
            spoilers = tuple(
                pick for pick, holds in judged.items()
                if not holds and all(judged[part] for part in proper_parts(pick))
            )
            self.gives(spoilers, find_spoilers, picture, script, goal, pool)
        else:
            self.fails(NotHeld, (goal,), find_spoilers, picture, script, goal, pool)
        return judged, due

    def test_all_small_pictures(self):
        chance = random.Random(117)
        for picture in list(all_pictures(3, 2, [0, 2])):
            edits = list(all_edits(3, 2, 2, 3))
            for script in chance.sample(list(all_scripts(2, 2, 2)), 4):
                goal = chance.choice(list(all_goals(3, 2, 3, range(4))))
                self.check(picture, script, goal, tuple(chance.choice(edits) for _ in range(3)))

    def test_larger_pictures(self):
        chance = random.Random(118)
        found = set()
        for _ in range(120):
            marks = chance.randrange(2, 4)
            picture = chance_picture(chance, chance.randrange(4, 9), 3, marks, 0.25)
            script = tuple((chance.randrange(marks), chance.randrange(3)) for _ in range(chance.randrange(1, 8)))
            pool = tuple(chance.choice(list(all_edits(len(picture), marks, len(script), 3))) for _ in range(5))
            goal = chance.choice(list(all_goals(len(picture), marks, 3, range(13))))
            judged, due = self.check(picture, script, goal, pool)
            found |= {len(pick) for pick in due}
            # every spoilt result has its word
            self.spoil(picture, script, goal, pool, judged, due)
        self.assertTrue({0, 1, 2} <= found)

    def spoil(self, picture, script, goal, pool, judged, due):
        def word(told):
            return mends_fault(picture, script, goal, pool, told)

        for pick, holds in judged.items():
            if pick not in due:
                self.same(word((*due, pick)), "least" if holds else "goal")
        for at in range(len(due)):
            self.same(word(due[:at] + due[at + 1:]), "lacking")
            self.same(word((*due, due[at])), "order")
        if len(due) > 1:
            self.same(word(due[::-1]), "order")


class Fault(Case):
    def judged(self, word, told, goal=ONE, pool=POOL):
        self.gives(word, lambda *given: mends_fault(*given, told), PICTURE, SCRIPT, goal, pool)

    def test_picks(self):
        for thing in (
            None, True, 0, "", "picks", [], [(0,), (1,)], {}, ((0,), [1]), ((0,), 1), (0, 1), (None,), ((1, 0),),
            ((0, 0),), ((3,),), ((-1,),), ((0, 1, 2, 3),), (((0,),),), ((0,), ()) + ("",),
            *((((0,), (thing,)) for thing in NO_NUMBERS)),
        ):
            self.judged("picks", thing)

    def test_words_in_their_order(self):
        self.judged(None, ((0,), (1,)))
        self.judged("goal", ((),))
        self.judged("goal", ((2,), (0, 1)))
        self.judged("goal", ((0, 1), (0, 2)))
        self.judged("least", ((0, 1),))
        self.judged("least", ((1,), (0,), (0, 1)))
        self.judged("lacking", ())
        self.judged("lacking", ((1,),))
        self.judged("lacking", ((1,), (1,)))
        self.judged("order", ((1,), (0,)))
        self.judged("order", ((0,), (1,), (0,)))
        self.judged("order", ((0,), (0,), (1,)))

    def test_goals_that_hold_or_are_never_reached(self):
        self.judged(None, ((),), ("not", ONE))
        self.judged("lacking", (), ("not", ONE))
        self.judged("order", ((), ()), ("not", ONE))
        self.judged("least", ((2,),), ("not", ONE))
        self.judged(None, (), ("reached", 3))
        self.judged("goal", ((),), ("reached", 3))

    def test_a_pick_with_more_edits_need_not_reach_the_goal(self):
        # the second edit takes back what the first one does, and a third one what that does
        pool = (("paint", 2, 1), ("paint", 2, 5), ("paint", 2, 1))
        self.gives(((0,), (2,)), find_mends, PICTURE, SCRIPT, ONE, pool)
        self.judged("goal", ((0,), (2,), (0, 1)), pool=pool)
        self.judged("least", ((0,), (2,), (0, 1, 2)), pool=pool)


class Greatest(Case):
    def test_pools_of_5_edits(self):
        begun = time.perf_counter()
        picture = Picture([cell % 3 for cell in range(700)], [(cell, cell + 1) for cell in range(699)], [0, 699])
        script = ((0, 1), (1, 0), (0, 2), (1, 2), (0, 0), (1, 1), (0, 1))
        pool = (("tie", 0, 699), ("put", 7, 0, 2), ("strike", 2), ("paint", 350, 99), ("untie", 0, 1))
        picks = find_mends(picture, script, ONE, pool)
        self.assertIsNone(mends_fault(picture, script, ONE, pool, picks))
        self.assertTrue(find_spoilers(picture, script, ("not", ("all one",)), pool) == ())
        self.assertLess(time.perf_counter() - begun, 10)
