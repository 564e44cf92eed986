"""[6.6]: whether two scripts do the same to all pictures."""

import itertools
import random

from spreadhues.errors import BadFirsts, BadMarks, BadScript, TooMany
from spreadhues.pictures import Picture
from spreadhues.rowsone import least_equal_row
from spreadhues.scriptsalike import PartingPicture, parting_fault, scripts_alike
from tests.helpers import NO_NUMBERS, NO_SEQUENCES, Case, all_pictures, all_rows, all_scripts, all_ties, naive_run


def ends(picture, script):
    return naive_run(picture.colours, picture.ties, picture.marks, script)[-1][2]


class Alike(Case):
    def parted(self, marks, one, other, firsts=None):
        told = scripts_alike(marks, one, other, firsts)
        self.assertIs(type(told), PartingPicture)
        picture = told.picture
        self.assertEqual(len(picture.marks), marks)
        if firsts is not None:
            self.assertEqual([picture.colours[cell] for cell in picture.marks], list(firsts))
        self.assertNotEqual(ends(picture, one)[told.cell], ends(picture, other)[told.cell])
        self.assertIsNone(parting_fault(marks, one, other, firsts, told))
        self.assertEqual(parting_fault(marks, one, other, firsts, None), "alike")

    def alike(self, marks, one, other, firsts=None):
        self.gives(None, scripts_alike, marks, one, other, firsts)
        self.gives(None, parting_fault, marks, one, other, firsts, None)

    def test_examples(self):
        self.alike(1, (), ())
        self.alike(3, (), (), (0, 1, 2))
        self.alike(1, ((0, 1), (0, 1)), ((0, 1),))
        self.parted(1, ((0, 1),), ())
        self.parted(2, ((0, 1),), ((1, 1),))
        # neighbours of one colour change places, others do not
        self.alike(2, ((0, 1), (1, 1)), ((1, 1), (0, 1)))
        self.parted(2, ((0, 1), (1, 2)), ((1, 2), (0, 1)))
        # told first colours make a pour idle
        self.alike(1, ((0, 5),), (), (5,))
        self.parted(1, ((0, 5),), (), (6,))
        self.alike(2, ((1, 5), (0, 1)), ((0, 1),), (6, 5))
        self.parted(2, ((1, 5), (0, 1)), ((0, 1),), (5, 6))
        # scripts of unlike lengths
        self.alike(2, ((0, 1), (1, 1), (0, 1)), ((1, 1), (0, 1)))
        self.alike(2, ((0, 1), (0, 2), (1, 2), (1, 2)), ((0, 1), (1, 2), (0, 2)))
        self.parted(2, ((0, 1), (1, 1)), ((0, 1), (1, 1), (0, 2)))

    def test_marks_that_are_left_out(self):
        """Nothing is poured into some marks; they stand in the picture with their first colours."""
        self.parted(3, ((1, 1),), ((1, 2),))
        self.parted(3, ((2, 1),), (), (7, 8, 9))
        self.parted(2, ((1, 1), (1, 2)), ((1, 2),), (0, 0))
        self.alike(3, ((2, 9),), (), (7, 8, 9))

    def test_one_mark(self):
        """Rows of one mark do the same exactly if they are equal once struck."""
        rows = list(all_rows(3, 3))
        for one, other in itertools.product(rows, repeat=2):
            scripts = [[(0, colour) for colour in row] for row in (one, other)]
            for firsts in (None, (1,)):
                first = None if firsts is None else 1
                if least_equal_row(one, first) == least_equal_row(other, first):
                    self.assertIsNone(scripts_alike(1, *scripts, firsts))
                else:
                    self.parted(1, *scripts, firsts)

    def test_all_small_scripts_and_pictures(self):
        """Scripts of two pours into two marks: all pictures of at most four cells part what is parted."""
        pictures = [p for cells in (2, 3) for p in all_pictures(cells, 3, [0, 1])]
        pictures += list(all_pictures(4, 3, [0, 1]))[::2]
        scripts = [script for pours in range(3) for script in all_scripts(2, 2, pours)]
        shown = {script: [ends(picture, script) for picture in pictures] for script in scripts}
        for one, other in itertools.combinations_with_replacement(scripts, 2):
            self.assertEqual(scripts_alike(2, one, other) is None, shown[one] == shown[other], (one, other))

    def test_all_small_scripts_with_told_first_colours(self):
        scripts = [script for pours in range(3) for script in all_scripts(2, 2, pours)]
        for firsts in ((0, 0), (0, 1)):
            pictures = [Picture((*firsts, *more), ties, [0, 1])
                        for more in itertools.product(range(3), repeat=2) for ties in all_ties(4)]
            shown = {script: [ends(picture, script) for picture in pictures] for script in scripts}
            for one, other in itertools.combinations_with_replacement(scripts, 2):
                self.assertEqual(scripts_alike(2, one, other, firsts) is None, shown[one] == shown[other], (one, other))

    def test_what_is_alike_is_never_parted(self):
        chance = random.Random(71)
        alike = 0
        for _ in range(60):
            marks = chance.randrange(1, 4)
            one = [(chance.randrange(marks), chance.randrange(3)) for _ in range(4)]
            other = list(one)
            at = chance.randrange(3)
            other[at], other[at + 1] = other[at + 1], other[at]
            firsts = chance.choice([None, tuple(chance.randrange(3) for _ in range(marks))])
            if scripts_alike(marks, one, other, firsts) is not None:
                self.parted(marks, one, other, firsts)
                continue
            alike += 1
            for _ in range(60):
                cells = chance.randrange(marks, 8)
                colours = [chance.randrange(4) for _ in range(cells)]
                colours[:marks] = firsts or colours[:marks]
                ties = [tie for tie in itertools.combinations(range(cells), 2) if chance.random() < 0.4]
                picture = Picture(colours, ties, list(range(marks)))
                self.same(ends(picture, one), ends(picture, other))
        self.assertGreater(alike, 10)

    def test_6_pours_into_3_marks(self):
        for one, other in (
            (((2, 5), (2, 2), (0, 2), (2, 1), (1, 1), (2, 3)), ((2, 5), (0, 2), (2, 2), (1, 1), (2, 1), (2, 3))),
            (((1, 1), (1, 0), (2, 0), (2, 2), (0, 2), (1, 2)), ((1, 1), (2, 0), (1, 0), (2, 2), (1, 2), (0, 2))),
            (((0, 0), (2, 0), (1, 0), (1, 1), (1, 0), (1, 1)), ((1, 0), (2, 0), (0, 0), (1, 1), (1, 0), (1, 1))),
            (((0, 0), (0, 0), (1, 0), (1, 0), (2, 1), (2, 1)), ((1, 0), (0, 0), (2, 1))),
        ):
            self.assertIsNone(scripts_alike(3, one, other))
            self.alike(3, one, other, (7, 8, 9))
            self.alike(3, one, one)
            self.parted(3, one, (*other[:2], *other[3:]))
        rising = tuple((k % 3, k) for k in range(6))
        self.parted(3, rising, tuple((k % 3, 10 + k) for k in range(6)))
        self.parted(3, rising, rising[::-1])

    def test_errors(self):
        for action in (scripts_alike, lambda *given: parting_fault(*given, None)):
            for thing in (0, 5, *NO_NUMBERS):
                self.fails(BadMarks, (thing,), action, thing, None, None, None)
            self.fails(TooMany, (3,), action, 4, None, None, None)
            for thing in (*NO_SEQUENCES, ((0, 0),) * 13):
                self.fails(BadScript, (0, "many"), action, 2, thing, None, 0)
                self.fails(BadScript, (0, "many"), action, 2, ((0, 0),) * 7, thing, 0)
            self.fails(BadScript, (1, "mark"), action, 2, ((0, 0), (2, 0)), None, 0)
            self.fails(BadScript, (1, "colour"), action, 2, (), ((0, 0), (1, True)), 0)
            for thing in (0, True, "01", (), (0,), (0, 0, 0)):
                self.fails(BadFirsts, (0,), action, 2, ((0, 0),) * 7, (), thing)
            for thing in (-1, 100, *NO_NUMBERS):
                self.fails(BadFirsts, (1,), action, 2, (), (), (0, thing))
            self.fails(TooMany, (6,), action, 2, ((0, 0),) * 7, (), None)
            self.fails(TooMany, (6,), action, 3, (), ((0, 0),) * 7, (0, 0, 0))
            self.fails(TooMany, (6,), action, 2, ((0, 0),) * 7, ((0, 0),) * 7, None)


class Fault(Case):
    def judged(self, word, told, firsts=None):
        self.gives(word, lambda one, other: parting_fault(2, one, other, firsts, told), ((0, 1), (1, 2)), ((1, 2), (0, 1)))

    def test_told(self):
        for thing in (True, False, 0, (), "told", Picture([0, 1], [], [0, 1]), (Picture([0, 2], [(0, 1)], [0, 1]), 0)):
            self.judged("told", thing)

    def test_alike(self):
        self.judged("alike", None)
        self.judged("alike", None, (0, 0))
        self.gives(None, parting_fault, 2, ((0, 1), (1, 1)), ((1, 1), (0, 1)), None, None)

    def test_parting_pictures(self):
        # mark 1 has colour 1: the first script joins it to mark 0 and pours 2 into both
        picture = Picture([0, 1, 5], [(0, 1)], [0, 1])
        self.judged(None, PartingPicture(picture, 0))
        self.judged(None, PartingPicture(picture, 0), (0, 1))
        self.judged("marks", PartingPicture(Picture([0, 1, 5], [(0, 1)], [0]), 9))
        self.judged("marks", PartingPicture(Picture([0, 1, 5], [(0, 1)], [0, 1, 2]), 0), (0, 1))
        self.judged("firsts", PartingPicture(picture, 9), (1, 1))
        self.judged("firsts", PartingPicture(picture, 0), (1, 0))
        for cell in (3, -1, *NO_NUMBERS):
            self.judged("cell", PartingPicture(picture, cell))
        self.judged("colour", PartingPicture(picture, 1), (0, 1))
        self.judged("colour", PartingPicture(picture, 2))

    def test_all_small_pictures_and_cells(self):
        one, other = ((0, 1), (1, 2)), ((1, 2), (0, 1))
        for picture in all_pictures(3, 3, [0, 1]):
            for cell in range(3):
                right = ends(picture, one)[cell] != ends(picture, other)[cell]
                self.same(parting_fault(2, one, other, None, PartingPicture(picture, cell)), None if right else "colour")
