"""[1.2], [1.3], [0.5]: pictures, their cells and their marks."""

from spreadhues.errors import BadPicture, NoCell, NoMark
from spreadhues.pictures import Picture, check_cell, check_mark, neighbours_of, with_colours, with_marks
from tests.helpers import NO_NUMBERS, NO_SEQUENCES, Case


class Constructor(Case):
    def test_attributes(self):
        for shape in (list, tuple):
            picture = Picture(shape([5, 0, 99]), shape([shape([2, 1]), shape([0, 1])]), shape([2, 0]))
            self.same(picture.colours, (5, 0, 99))
            self.same(picture.ties, ((0, 1), (1, 2)))
            self.same(picture.marks, (2, 0))

    def test_ties_told_twice_and_in_either_sense(self):
        picture = Picture([0] * 4, [(3, 0), (0, 3), (1, 0), (0, 1), (0, 1), (2, 1)], [0])
        self.same(picture.ties, ((0, 1), (0, 3), (1, 2)))

    def test_no_ties(self):
        self.same(Picture([0, 0], [], [1]).ties, ())

    def test_length_is_the_number_of_cells(self):
        for cells in (1, 2, 700):
            self.same(len(Picture([0] * cells, [], [0])), cells)

    def test_one_cell_and_700_and_one_beyond(self):
        self.same(Picture([4], [], [0]).colours, (4,))
        self.same(len(Picture([0] * 700, [(0, 699)], [699]).colours), 700)
        self.fails(BadPicture, (0, "cells"), Picture, [], [], [0])
        self.fails(BadPicture, (0, "cells"), Picture, [0] * 701, [], [0])

    def test_cells_are_a_sequence(self):
        for thing in NO_SEQUENCES:
            self.fails(BadPicture, (0, "cells"), Picture, thing, [], [0])

    def test_first_wrong_colour(self):
        for thing in (-1, 100, *NO_NUMBERS):
            self.fails(BadPicture, (1, "colour"), Picture, [0, thing, -1], [], [0])

    def test_2000_ties_and_one_beyond(self):
        self.same(Picture([0, 0], [(0, 1), (1, 0)] * 1000, [0]).ties, ((0, 1),))
        self.fails(BadPicture, (0, "ties"), Picture, [0, 0], [(0, 1)] * 2001, [0])
        self.fails(BadPicture, (0, "ties"), Picture, [0, 0], [None] * 2001, [0])

    def test_ties_are_a_sequence(self):
        for thing in NO_SEQUENCES:
            self.fails(BadPicture, (0, "ties"), Picture, [0, 0], thing, [0])

    def test_first_wrong_tie(self):
        wrong = [(0, 0), (0, 2), (2, 0), (-1, 0), (0, -1), (0,), (0, 1, 1), (), "01", {0, 1}, None, 3]
        wrong += [(0, thing) for thing in NO_NUMBERS] + [(thing, 1) for thing in NO_NUMBERS]
        for tie in wrong:
            self.fails(BadPicture, (1, "tie"), Picture, [0, 0], [(0, 1), tie, (1, 1)], [0])

    def test_one_to_four_marks_and_one_beyond(self):
        self.same(Picture([0] * 5, [], [4, 3, 2, 1]).marks, (4, 3, 2, 1))
        self.fails(BadPicture, (0, "marks"), Picture, [0] * 5, [], [])
        self.fails(BadPicture, (0, "marks"), Picture, [0] * 5, [], [0, 1, 2, 3, 4])

    def test_marks_are_a_sequence(self):
        for thing in NO_SEQUENCES:
            self.fails(BadPicture, (0, "marks"), Picture, [0, 0], [], thing)

    def test_first_wrong_mark(self):
        for thing in (-1, 2, 0, *NO_NUMBERS):
            self.fails(BadPicture, (1, "mark"), Picture, [0, 0], [], [0, thing, 7])
        self.fails(BadPicture, (2, "mark"), Picture, [0, 0], [], [1, 0, 1])

    def test_cells_then_ties_then_marks(self):
        self.fails(BadPicture, (0, "cells"), Picture, [], None, None)
        self.fails(BadPicture, (1, "colour"), Picture, [0, 100], None, None)
        self.fails(BadPicture, (0, "ties"), Picture, [0], None, None)
        self.fails(BadPicture, (0, "tie"), Picture, [0], [None], None)
        self.fails(BadPicture, (0, "marks"), Picture, [0], [], None)

    def test_lists_that_change_later_have_no_effect(self):
        colours, ties, marks = [1, 2], [[0, 1]], [0]
        picture = Picture(colours, ties, marks)
        colours[0], ties[0][0], marks[0] = 7, 1, 1
        colours.append(3), ties.append([1, 0]), marks.append(0)
        self.same((picture.colours, picture.ties, picture.marks), ((1, 2), ((0, 1),), (0,)))


class Equality(Case):
    def test_equal_if_all_attributes_are(self):
        picture = Picture([0, 1], [(0, 1)], [0])
        self.assertTrue(picture == Picture((0, 1), [(1, 0), (0, 1)], (0,)))
        self.assertFalse(picture != Picture((0, 1), [(1, 0)], (0,)))
        for other in (Picture([0, 2], [(0, 1)], [0]), Picture([0, 1], [], [0]), Picture([0, 1], [(0, 1)], [1])):
            self.assertFalse(picture == other)
            self.assertTrue(picture != other)

    def test_other_things_are_unlike(self):
        picture = Picture([0, 1], [(0, 1)], [0])
        for thing in (None, (0, 1), 0, "picture", ((0, 1), ((0, 1),), (0,))):
            self.assertFalse(picture == thing)
            self.assertTrue(picture != thing)


class CellsAndMarks(Case):
    def setUp(self):
        self.picture = Picture([3, 4, 5, 6], [(2, 0), (2, 3), (1, 2)], [1, 3])

    def test_cells(self):
        for cell in range(4):
            self.gives(cell, check_cell, self.picture, cell)
        for thing in (-1, 4, *NO_NUMBERS):
            self.fails(NoCell, (thing,), check_cell, self.picture, thing)

    def test_marks(self):
        for mark in range(3):
            self.gives(mark, check_mark, 3, mark)
        for thing in (-1, 3, *NO_NUMBERS):
            self.fails(NoMark, (thing,), check_mark, 3, thing)

    def test_neighbours_ascend(self):
        self.gives((0, 1, 3), neighbours_of, self.picture, 2)
        self.gives((2,), neighbours_of, self.picture, 0)
        self.gives((), neighbours_of, Picture([0, 0], [], [0]), 1)
        for thing in (-1, 4, *NO_NUMBERS):
            self.fails(NoCell, (thing,), neighbours_of, self.picture, thing)

    def test_other_colours(self):
        due = Picture([9, 8, 7, 6], [(0, 2), (1, 2), (2, 3)], [1, 3])
        self.gives(due, with_colours, self.picture, [9, 8, 7, 6])
        self.same(self.picture.colours, (3, 4, 5, 6))

    def test_wrong_colours(self):
        for thing in (*NO_SEQUENCES, [0] * 3, [0] * 5, [], [True] * 5, [0] * 701):
            self.fails(BadPicture, (0, "cells"), with_colours, self.picture, thing)
        for thing in (-1, 100, *NO_NUMBERS):
            self.fails(BadPicture, (2, "colour"), with_colours, self.picture, [0, 0, thing, None])

    def test_other_marks(self):
        due = Picture([3, 4, 5, 6], [(0, 2), (1, 2), (2, 3)], [3, 0, 1])
        self.gives(due, with_marks, self.picture, [3, 0, 1])
        self.same(self.picture.marks, (1, 3))

    def test_wrong_marks(self):
        for thing in (*NO_SEQUENCES, [], [0, 1, 2, 3, 0]):
            self.fails(BadPicture, (0, "marks"), with_marks, self.picture, thing)
        for thing in (-1, 4, 2, *NO_NUMBERS):
            self.fails(BadPicture, (1, "mark"), with_marks, self.picture, [2, thing, None])
