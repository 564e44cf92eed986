"""[10.6], [10.7]: rounds of a script."""

import itertools
import random
import time

from spreadhues.errors import BadScript, BadTimes, NoMark
from spreadhues.patches import patches_of
from spreadhues.pictures import Picture
from spreadhues.rounds import after_rounds, ever_one, rounds_came, settled_after, settled_picture
from spreadhues.squares import line_picture
from tests.helpers import (
    NO_NUMBERS, NO_SEQUENCES, Case, all_pictures, all_scripts, as_lists, chance_picture, naive_patch, naive_run,
    neighbours,
)

# each round takes two cells of the line
LINE = Picture([0, 1, 0, 1, 0, 5], [(0, 1), (1, 2), (2, 3), (3, 4), (4, 5)], [0, 5])
SCRIPT = ((0, 1), (0, 0))
HUGE = 10 ** 12


class Naive:
    """Rounds told cell by cell: the colours behind each, and the cells that lay in marks' patches up to then."""

    def __init__(self, picture, script, many):
        self.ends, self.came, self.parted = [picture.colours], [None] * len(picture), []
        for times in range(many + 1):
            moments = naive_run(self.ends[-1], picture.ties, picture.marks, script if times else ())
            for cell in set().union(*[moment[3] for moment in moments]):
                if self.came[cell] is None:
                    self.came[cell] = times
            self.ends.append(moments[-1][2])
            self.parted.append(moments[-1][0])
        self.ends = self.ends[1:]

    def settled(self):
        return next(times for times in range(len(self.ends) - 1) if self.ends[times] == self.ends[times + 1])

    def one(self, mark, other):
        return next((t for t, parting in enumerate(self.parted) if parting[mark] == parting[other]), None)


class Examples(Case):
    def test_after(self):
        self.gives(LINE, after_rounds, LINE, SCRIPT, 0)
        self.gives(Picture([0, 0, 0, 1, 0, 5], LINE.ties, LINE.marks), after_rounds, LINE, SCRIPT, 1)
        for times in (2, 3, 100, HUGE):
            self.gives(Picture([0, 0, 0, 0, 0, 5], LINE.ties, LINE.marks), after_rounds, LINE, SCRIPT, times)

    def test_settled(self):
        self.gives(2, settled_after, LINE, SCRIPT)
        self.gives(Picture([0, 0, 0, 0, 0, 5], LINE.ties, LINE.marks), settled_picture, LINE, SCRIPT)
        # a script that changes nothing
        for script in ((), ((0, 0),), ((1, 5), (0, 0), (1, 5)), ((0, 9), (0, 0))):
            self.gives(0, settled_after, LINE, script)
            self.gives(LINE, settled_picture, LINE, script)
            for times in (0, 1, HUGE):
                self.gives(LINE, after_rounds, LINE, script, times)
        # the first round colours anew, and joins nothing
        self.gives(1, settled_after, LINE, ((1, 7),))

    def test_came(self):
        self.gives((0, 1, 1, 2, 2, 0), rounds_came, LINE, SCRIPT)
        self.gives((0, None, None, None, None, 0), rounds_came, LINE, ())
        self.gives((0, 1, 2, 2, 3, 0), rounds_came, LINE, ((0, 0), (0, 1)))
        # a cell that comes in the middle of a round
        self.gives((0, 1, None), rounds_came, Picture([0, 1, 2], [(0, 1), (1, 2)], [0]), ((0, 1), (0, 7)))

    def test_ever_one(self):
        self.gives(None, ever_one, LINE, SCRIPT, 0, 1)
        self.gives(3, ever_one, Picture([0, 1, 0, 1, 0, 1], LINE.ties, LINE.marks), SCRIPT, 0, 1)
        self.gives(3, ever_one, Picture([0, 1, 0, 1, 0, 1], LINE.ties, LINE.marks), SCRIPT, 1, 0)
        for mark in (0, 1):
            self.gives(0, ever_one, LINE, SCRIPT, mark, mark)
        self.gives(0, ever_one, Picture([3, 3], [(0, 1)], [1, 0]), (), 0, 1)
        self.gives(1, ever_one, Picture([3, 4], [(0, 1)], [1, 0]), ((0, 3), (1, 9)), 0, 1)


class Errors(Case):
    def test_scripts(self):
        actions = (
            lambda *given: after_rounds(*given, None), settled_after, settled_picture, rounds_came,
            lambda *given: ever_one(*given, None, None),
        )
        for action in actions:
            for thing in (*NO_SEQUENCES, ((0, 0),) * 13):
                self.fails(BadScript, (0, "many"), action, LINE, thing)
            self.fails(BadScript, (1, "pour"), action, LINE, ((0, 0), (0,)))
            self.fails(BadScript, (0, "mark"), action, LINE, ((True, 100),))
            self.fails(BadScript, (0, "colour"), action, LINE, ((1, True),))

    def test_times(self):
        for thing in (-1, HUGE + 1, *NO_NUMBERS):
            self.fails(BadTimes, (thing,), after_rounds, LINE, SCRIPT, thing)

    def test_marks(self):
        for thing in (-1, 2, *NO_NUMBERS):
            self.fails(NoMark, (thing,), ever_one, LINE, SCRIPT, thing, None)
            self.fails(NoMark, (thing,), ever_one, LINE, SCRIPT, 1, thing)


class Agreement(Case):
    def check(self, picture, script):
        patches = len(patches_of(picture))
        naive = Naive(picture, script, patches + 1)
        settled = settled_after(picture, as_lists(script))
        self.same(settled, naive.settled())
        self.assertLessEqual(settled, patches)
        self.assertEqual(settled_picture(picture, script).colours, naive.ends[settled])
        for times in (0, 1, settled, patches + 1):
            self.assertEqual(after_rounds(picture, script, times), Picture(naive.ends[times], picture.ties, picture.marks))
        self.assertEqual(after_rounds(picture, script, HUGE).colours, naive.ends[settled])
        self.same(rounds_came(picture, script), tuple(naive.came))
        for mark, other in itertools.product(range(len(picture.marks)), repeat=2):
            self.same(ever_one(picture, script, mark, other), naive.one(mark, other))
        self.beyond(picture, script)

    def beyond(self, picture, script):
        """What [10.7] tells of all pictures."""
        came, ends = rounds_came(picture, script), settled_picture(picture, script).colours
        poured = {colour for _, colour in script}
        for one, other in [*picture.ties, *(tie[::-1] for tie in picture.ties)]:
            if came[one] is None and came[other] is not None:
                lot = naive_patch(ends, picture.ties, other)
                tints = {colour for mark, colour in script if picture.marks[mark] in lot}
                self.assertNotIn(picture.colours[one], tints)
        if len(picture.marks) == 1:
            found = set(naive_patch(picture.colours, picture.ties, picture.marks[0]))
            waiting = sorted(found)
            while waiting:
                for other in neighbours(picture, waiting.pop()):
                    if other not in found and picture.colours[other] in poured:
                        found.add(other)
                        waiting.append(other)
            self.assertEqual({cell for cell, times in enumerate(came) if times is not None}, found)

    def test_all_small_pictures(self):
        for picture in all_pictures(3, 3, [1]):
            for many in range(4):
                for script in list(all_scripts(1, 3, many))[::2]:
                    self.check(picture, script)
        for picture in list(all_pictures(3, 3, [0, 2]))[::2]:
            for script in list(all_scripts(2, 3, 2))[::3]:
                self.check(picture, script)

    def test_larger_pictures(self):
        chance = random.Random(114)
        for _ in range(150):
            marks = chance.randrange(1, 5)
            picture = chance_picture(chance, chance.randrange(marks, 12), 4, marks, 0.25)
            script = tuple((chance.randrange(marks), chance.randrange(4)) for _ in range(chance.randrange(6)))
            self.check(picture, script)


class Greatest(Case):
    def test_700_cells(self):
        begun = time.perf_counter()
        picture = line_picture([0, 1] * 350)
        script = ((0, 1), (1, 0), (0, 0), (1, 1))
        settled = settled_after(picture, script)
        self.assertLessEqual(settled, 700)
        self.assertEqual(after_rounds(picture, script, HUGE), settled_picture(picture, script))
        self.assertEqual(max(rounds_came(picture, script)), ever_one(picture, script, 0, 1))
        # one cell in each round, but two where the colours begin anew
        slow = Picture([k % 7 for k in range(700)], [(k, k + 1) for k in range(699)], [0])
        self.assertEqual(settled_after(slow, tuple((0, 6 - k) for k in range(7))), 600)
        wide = tuple((0, 11 - k) for k in range(12))
        self.assertTrue(settled_after(Picture([k % 12 for k in range(700)], slow.ties, [0]), wide) > 600)
        self.assertLess(time.perf_counter() - begun, 20)
