"""[10.1], [10.2]: pours that change places, and orders of scripts."""

import itertools
import math
import random

from spreadhues.errors import BadMarks, BadPour, BadScript
from spreadhues.orders import are_orders, change_places, count_orders, first_order
from spreadhues.scriptsalike import PartingPicture, parting_fault, scripts_alike
from tests.helpers import NO_NUMBERS, NO_SEQUENCES, Case, all_pictures, all_scripts, naive_run


def naive_orders(script):
    """All scripts had by changing places of neighbouring pours of one colour."""
    found, waiting = set(), [tuple(script)]
    while waiting:
        own = waiting.pop()
        if own not in found:
            found.add(own)
            for k in range(len(own) - 1):
                if own[k][1] == own[k + 1][1]:
                    waiting.append((*own[:k], own[k + 1], own[k], *own[k + 2:]))
    return found


class Places(Case):
    def test_all_pours(self):
        for marks in (1, 2, 3):
            for one, other in itertools.product(all_scripts(marks, 3, 1), repeat=2):
                told = change_places(marks, one[0], other[0])
                self.assertEqual(told is None, one[0][1] == other[0][1])
                self.assertIsNone(parting_fault(marks, one + other, other + one, None, told))
                self.assertEqual(scripts_alike(marks, one + other, other + one) is None, told is None)
                if told is not None:
                    ends = [
                        naive_run(told.picture.colours, told.picture.ties, told.picture.marks, script)[-1][2]
                        for script in (one + other, other + one)
                    ]
                    self.assertNotEqual(ends[0][told.cell], ends[1][told.cell])

    def test_four_marks(self):
        self.gives(None, change_places, 4, (3, 7), (0, 7))
        for one, other in (((3, 7), (0, 8)), ((3, 0), (3, 1)), ((1, 99), (2, 0))):
            told = change_places(4, list(one), list(other))
            self.assertIs(type(told), PartingPicture)
            self.assertEqual(len(told.picture.marks), 4)
            ends = [
                naive_run(told.picture.colours, told.picture.ties, told.picture.marks, script)[-1][2][told.cell]
                for script in ((one, other), (other, one))
            ]
            self.assertEqual(sorted(ends), sorted((one[1], other[1])))

    def test_pours_of_one_colour_do_the_same_to_all_small_pictures(self):
        for picture in all_pictures(4, 2, [0, 3]):
            for one, other in (((0, 1), (1, 1)), ((0, 2), (1, 2)), ((1, 0), (0, 0))):
                ends = [
                    naive_run(picture.colours, picture.ties, picture.marks, script)[-1][2]
                    for script in ((one, other), (other, one))
                ]
                self.assertEqual(ends[0], ends[1])

    def test_errors(self):
        for thing in (0, 5, -1, *NO_NUMBERS):
            self.fails(BadMarks, (thing,), change_places, thing, None, None)
        for thing in (*NO_SEQUENCES, (), (0,), (0, 0, 0)):
            self.fails(BadPour, ("pour",), change_places, 2, thing, (2, 0))
            self.fails(BadPour, ("pour",), change_places, 2, (0, 0), thing)
        for thing in (-1, 2, *NO_NUMBERS):
            self.fails(BadPour, ("mark",), change_places, 2, (thing, 100), None)
            self.fails(BadPour, ("mark",), change_places, 2, (0, 0), (thing, 100))
        for thing in (-1, 100, *NO_NUMBERS):
            self.fails(BadPour, ("colour",), change_places, 2, (0, thing), (2, 0))
            self.fails(BadPour, ("colour",), change_places, 2, (0, 0), (1, thing))


class Orders(Case):
    def test_examples(self):
        self.gives((), first_order, 1, ())
        self.gives(((0, 5), (1, 5), (0, 2), (1, 5)), first_order, 2, ((1, 5), (0, 5), (0, 2), (1, 5)))
        self.gives(1, count_orders, 1, ())
        self.gives(2, count_orders, 2, ((1, 5), (0, 5), (0, 2), (1, 5)))
        self.gives(True, are_orders, 2, ((1, 5), (0, 5)), ((0, 5), (1, 5)))
        self.gives(False, are_orders, 2, ((1, 5), (0, 6)), ((0, 6), (1, 5)))
        # the same pours, not in as many numbers
        self.gives(False, are_orders, 2, ((1, 5), (0, 5), (0, 5)), ((1, 5), (1, 5), (0, 5)))
        self.gives(False, are_orders, 2, ((1, 5),), ((1, 5), (1, 5)))

    def test_all_small_scripts(self):
        for marks, colours, most in ((2, 2, 5), (3, 2, 4)):
            scripts = [script for many in range(most + 1) for script in all_scripts(marks, colours, many)]
            for script in scripts:
                orders = naive_orders(script)
                self.gives(min(orders), first_order, marks, script)
                self.gives(len(orders), count_orders, marks, script)
            chance = random.Random(107)
            for one in chance.sample(scripts, 60):
                orders = naive_orders(one)
                for other in chance.sample(scripts, 30) + sorted(orders):
                    self.same(are_orders(marks, one, other), other in orders)

    def test_orders_do_the_same(self):
        for script in all_scripts(2, 2, 3):
            for picture in list(all_pictures(3, 2, [0, 2]))[::3]:
                ends = {
                    naive_run(picture.colours, picture.ties, picture.marks, order)[-1][2]
                    for order in naive_orders(script)
                }
                self.assertEqual(len(ends), 1)
            self.assertIsNone(scripts_alike(2, script, first_order(2, script)))

    def test_12_pours_of_one_colour_into_four_marks(self):
        script = tuple((k % 4, 9) for k in range(12))
        self.gives(369600, count_orders, 4, script)
        self.gives(tuple(sorted(script)), first_order, 4, script)
        self.gives(True, are_orders, 4, script, script[::-1])
        self.gives(1, count_orders, 4, ((3, 9),) * 12)
        self.gives(math.comb(12, 5), count_orders, 4, ((3, 9),) * 5 + ((0, 9),) * 7)
        # three colours, each of four pours into four marks
        self.gives(24 ** 3, count_orders, 4, tuple((k % 4, k // 4) for k in range(12)))
        self.gives(1, count_orders, 4, tuple((k % 4, k % 3) for k in range(12)))

    def test_errors(self):
        actions = (first_order, count_orders, lambda *given: are_orders(*given, None),
                   lambda marks, script: are_orders(marks, (), script))
        for action in actions:
            for thing in (0, 5, -1, *NO_NUMBERS):
                self.fails(BadMarks, (thing,), action, thing, None)
            for thing in (*NO_SEQUENCES, ((0, 0),) * 13):
                self.fails(BadScript, (0, "many"), action, 2, thing)
            self.fails(BadScript, (1, "pour"), action, 2, ((0, 0), (0,)))
            self.fails(BadScript, (0, "mark"), action, 2, ((True, 100),))
            self.fails(BadScript, (0, "colour"), action, 2, ((1, True),))
