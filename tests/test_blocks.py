"""[10.3] to [10.5]: blocks, fuller blocks, needless pours."""

import itertools
import random
import time

from spreadhues.blocks import (
    blocks_of, first_blocks_script, fullest_blocks, lean_script, needless_fault, shortest_alike, surely_same,
)
from spreadhues.errors import BadMarks, BadScript, NoPour, TooMany
from spreadhues.scriptsalike import PartingPicture, parting_fault, scripts_alike
from tests.helpers import NO_NUMBERS, NO_SEQUENCES, Case, all_pictures, all_scripts, as_lists, naive_run


def naive_blocks(script):
    return [(colour, {mark for mark, _ in group}) for colour, group in itertools.groupby(script, lambda pour: pour[1])]


def can_add(marks, blocks, at, mark):
    """Whether the words of [10.4] let the mark be added to the block."""
    colour, own = blocks[at]
    if mark in own or not any(mark in others for _, others in blocks[:at]):
        return False
    for x in range(marks):
        if x not in own:
            last = [tint for tint, others in blocks[:at] if others & {mark, x}][-1]
            if last != colour:
                return False
    return True


def naive_fullest(marks, script, chance=None):
    """The fullest blocks; marks are added in any order."""
    blocks = naive_blocks(script)
    while True:
        free = [(at, k) for at in range(len(blocks)) for k in range(marks) if can_add(marks, blocks, at, k)]
        if not free:
            return tuple((colour, tuple(sorted(own))) for colour, own in blocks)
        at, mark = chance.choice(free) if chance else free[0]
        blocks[at][1].add(mark)


def ends_alike(pictures, one, other):
    """Whether the scripts leave all the pictures in the same colours."""
    return all(
        naive_run(p.colours, p.ties, p.marks, one)[-1][2] == naive_run(p.colours, p.ties, p.marks, other)[-1][2]
        for p in pictures
    )


class Blocks(Case):
    def test_examples(self):
        script = ((1, 5), (0, 5), (1, 5), (0, 2), (0, 5))
        self.gives(((5, (0, 1)), (2, (0,)), (5, (0,))), blocks_of, 2, script)
        self.gives((), blocks_of, 1, ())
        self.gives(((0, 5), (1, 5), (0, 2), (0, 5)), first_blocks_script, blocks_of(2, script))
        self.gives((), first_blocks_script, ())
        # in ascending order, however the marks are told
        self.gives(((0, 5), (2, 5), (0, 1)), first_blocks_script, ((5, (2, 0)), (1, (0,))))
        # more than 12 pours
        blocks = tuple((colour, (0, 1, 2, 3)) for colour in range(4))
        self.gives(tuple((mark, colour) for colour in range(4) for mark in range(4)), first_blocks_script, blocks)

    def test_all_small_scripts(self):
        for many in range(5):
            for script in all_scripts(2, 2, many):
                told = blocks_of(2, script)
                self.same(told, tuple((colour, tuple(sorted(own))) for colour, own in naive_blocks(script)))
                self.same(blocks_of(2, first_blocks_script(as_lists(told))), told)
                self.assertTrue(all(one[0] != other[0] for one, other in zip(told, told[1:])))

    def test_a_mark_several_times_in_a_block_counts_once(self):
        pictures = list(all_pictures(3, 2, [0, 2]))
        for script in all_scripts(2, 2, 3):
            self.assertTrue(ends_alike(pictures[::3], script, first_blocks_script(blocks_of(2, script))))

    def test_errors(self):
        actions = (
            blocks_of, fullest_blocks, lean_script, lambda *given: surely_same(*given, None),
            lambda marks, script: surely_same(marks, (), script),
        )
        for action in actions:
            for thing in (0, 5, -1, *NO_NUMBERS):
                self.fails(BadMarks, (thing,), action, thing, None)
            for thing in (*NO_SEQUENCES, ((0, 0),) * 13):
                self.fails(BadScript, (0, "many"), action, 4, thing)
            self.fails(BadScript, (1, "pour"), action, 4, ((0, 0), (0,)))
            self.fails(BadScript, (0, "mark"), action, 4, ((True, 100),))
            self.fails(BadScript, (0, "colour"), action, 4, ((1, True),))


class Fuller(Case):
    def test_examples(self):
        # mark 0 has the colour already, whatever lies between
        self.gives(((5, (0,)), (2, (1,)), (5, (0, 1))), fullest_blocks, 2, ((0, 5), (1, 2), (0, 5), (1, 5)))
        self.gives(((5, (0, 1)), (2, (0,)), (5, (0, 1))), fullest_blocks, 2, ((0, 5), (1, 5), (0, 2), (0, 5)))
        # a third mark could part them
        self.gives(((5, (0, 1)), (2, (0, 2)), (5, (0,))), fullest_blocks, 3,
                   ((0, 5), (1, 5), (0, 2), (2, 2), (0, 5)))
        self.gives((), fullest_blocks, 4, ())
        # no earlier block has the mark
        self.gives(((5, (0,)), (2, (0,)), (5, (0,))), fullest_blocks, 2, ((0, 5), (0, 2), (0, 5)))

    def test_all_small_scripts(self):
        chance = random.Random(108)
        for marks, colours, most in ((1, 2, 5), (2, 2, 6), (3, 2, 4), (2, 3, 4)):
            for many in range(most + 1):
                for script in all_scripts(marks, colours, many):
                    due = naive_fullest(marks, script)
                    self.same(fullest_blocks(marks, script), due)
                    # whichever order marks are added in
                    self.same(naive_fullest(marks, script, chance), due)

    def test_the_order_of_adding_does_not_matter(self):
        chance = random.Random(109)
        for _ in range(400):
            marks = chance.randrange(2, 5)
            script = tuple((chance.randrange(marks), chance.randrange(3)) for _ in range(12))
            due = fullest_blocks(marks, as_lists(script))
            for _ in range(3):
                self.same(naive_fullest(marks, script, chance), due)
            for mark, own in ((k, own) for k in range(marks) for _, own in due):
                self.assertEqual(list(own), sorted(set(own)))

    def test_equal_fullest_blocks_do_the_same(self):
        pictures = list(all_pictures(4, 2, [0, 3]))[::5]
        scripts = [script for many in range(5) for script in all_scripts(2, 2, many)]
        groups = {}
        for script in scripts:
            groups.setdefault(fullest_blocks(2, script), []).append(script)
        for group in groups.values():
            for other in group[1:3]:
                self.assertIs(surely_same(2, group[0], other), True)
                self.assertTrue(ends_alike(pictures, group[0], other))
                self.assertIsNone(scripts_alike(2, group[0], other))
        chance = random.Random(110)
        for one, other in (chance.sample(scripts, 2) for _ in range(300)):
            self.gives(fullest_blocks(2, one) == fullest_blocks(2, other), surely_same, 2, one, other)


class Lean(Case):
    def test_examples(self):
        self.gives(((0, 5), (1, 5)), lean_script, 2, ((1, 5), (0, 5), (0, 5), (1, 5))[1:])
        self.gives(((0, 5), (1, 2), (1, 5)), lean_script, 2, ((0, 5), (1, 2), (0, 5), (1, 5)))
        self.gives((), lean_script, 4, ())
        # of two equal pours the first one is left out
        self.gives(((1, 5), (0, 5), (0, 2)), lean_script, 2, ((0, 5), (1, 5), (0, 5), (0, 2)))

    def check(self, marks, script):
        due, left = naive_fullest(marks, script), list(script)
        for pour in range(len(script), 0, -1):
            at = len(left) - pour
            if naive_fullest(marks, left[:at] + left[at + 1:]) == due:
                del left[at]
        self.gives(tuple(left), lean_script, marks, script)
        self.assertTrue(surely_same(marks, left, script))

    def test_all_small_scripts(self):
        for marks, many in ((1, 5), (2, 5), (3, 4)):
            for script in all_scripts(marks, 2, many):
                self.check(marks, script)

    def test_12_pours_of_three_colours_into_four_marks(self):
        chance = random.Random(111)
        for _ in range(60):
            self.check(4, tuple((chance.randrange(4), chance.randrange(3)) for _ in range(12)))


class Needless(Case):
    def judged(self, marks, script, index):
        told = needless_fault(marks, script, index)
        shorter = script[:index] + script[index + 1:]
        self.assertIsNone(parting_fault(marks, script, shorter, None, told))
        if told is not None:
            self.assertIs(type(told), PartingPicture)
            ends = [
                naive_run(told.picture.colours, told.picture.ties, told.picture.marks, own)[-1][2][told.cell]
                for own in (script, shorter)
            ]
            self.assertNotEqual(ends[0], ends[1])
        return told

    def test_examples(self):
        self.assertIsNone(needless_fault(1, [[0, 5], [0, 5]], 1))
        self.assertIsNone(needless_fault(2, ((0, 5), (1, 5), (0, 5)), 0))
        self.assertIsNotNone(self.judged(2, ((0, 5), (1, 5)), 0))
        self.assertIsNotNone(self.judged(1, ((0, 5), (0, 2)), 0))

    def test_all_small_scripts(self):
        pictures = list(all_pictures(4, 2, [0, 3]))[::7]
        for many in (1, 2, 3):
            for script in all_scripts(2, 2, many):
                for index in range(many):
                    told = self.judged(2, script, index)
                    shorter = script[:index] + script[index + 1:]
                    self.assertEqual(told is None, scripts_alike(2, script, shorter) is None)
                    if told is None:
                        self.assertTrue(ends_alike(pictures, script, shorter))

    def test_errors(self):
        for thing in (0, 5, -1, *NO_NUMBERS):
            self.fails(BadMarks, (thing,), needless_fault, thing, None, None)
            self.fails(BadMarks, (thing,), shortest_alike, thing, None)
        self.fails(TooMany, (3,), needless_fault, 4, None, None)
        self.fails(TooMany, (3,), shortest_alike, 4, None)
        for action in (lambda *given: needless_fault(*given, None), shortest_alike):
            for thing in (*NO_SEQUENCES, ((0, 0),) * 13):
                self.fails(BadScript, (0, "many"), action, 3, thing)
            self.fails(BadScript, (7, "pour"), action, 3, (*((0, 0),) * 7, (0,)))
            self.fails(BadScript, (0, "mark"), action, 3, ((True, 100),))
            self.fails(BadScript, (0, "colour"), action, 3, ((1, True),))
        for many in (0, 1, 6, 7, 12):
            for thing in (-1, many, *NO_NUMBERS):
                self.fails(NoPour, (thing,), needless_fault, 3, ((0, 0),) * many, thing)
        for many in (7, 12):
            self.fails(TooMany, (6,), needless_fault, 3, ((0, 0),) * many, 0)
        for many in (5, 12):
            self.fails(TooMany, (4,), shortest_alike, 3, ((0, 0),) * many)


class Shortest(Case):
    def naive(self, marks, script):
        for many in range(len(script) + 1):
            for pick in itertools.combinations(range(len(script)), many):
                shorter = tuple(script[index] for index in pick)
                if scripts_alike(marks, script, shorter) is None:
                    return shorter

    def test_examples(self):
        self.gives((), shortest_alike, 1, ())
        self.gives(((0, 5),), shortest_alike, 3, ((0, 5),) * 4)
        self.gives(((1, 5), (0, 5)), shortest_alike, 2, ((1, 5), (0, 5), (1, 5), (0, 5)))
        self.gives(((0, 5), (0, 2), (0, 5)), shortest_alike, 1, ((0, 5), (0, 2), (0, 5)))

    def test_all_small_scripts(self):
        for marks, colours, most in ((1, 2, 4), (2, 2, 3), (1, 3, 3)):
            for many in range(most + 1):
                for script in all_scripts(marks, colours, many):
                    self.gives(self.naive(marks, script), shortest_alike, marks, script)
        chance = random.Random(112)
        for _ in range(25):
            marks = chance.randrange(2, 4)
            script = tuple((chance.randrange(marks), chance.randrange(2)) for _ in range(4))
            self.gives(self.naive(marks, script), shortest_alike, marks, script)


class Greatest(Case):
    def test_6_pours_into_3_marks(self):
        chance = random.Random(113)
        for _ in range(12):
            script = tuple((chance.randrange(3), chance.randrange(2)) for _ in range(6))
            begun = time.perf_counter()
            told = needless_fault(3, script, chance.randrange(6))
            self.assertLess(time.perf_counter() - begun, 10)
            self.assertIn(type(told), (PartingPicture, type(None)))
