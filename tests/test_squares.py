"""[1.6], [1.7]: lines and pictures on squares."""

from spreadhues.errors import BadRow, BadSquares
from spreadhues.pictures import Picture
from spreadhues.squares import Squares, line_picture, picture_of_squares
from tests.helpers import NO_NUMBERS, NO_SEQUENCES, Case


class Lines(Case):
    def test_each_cell_is_tied_to_the_next(self):
        self.gives(Picture([4, 4, 2, 4], [(0, 1), (1, 2), (2, 3)], [0, 3]), line_picture, [4, 4, 2, 4])

    def test_one_cell_has_one_mark(self):
        self.gives(Picture([4], [], [0]), line_picture, [4])
        self.gives(Picture([4, 5], [(0, 1)], [0, 1]), line_picture, [4, 5])

    def test_700_colours_and_one_beyond(self):
        self.same(len(line_picture([1] * 700)), 700)
        self.fails(BadRow, (0,), line_picture, [1] * 701)

    def test_no_row(self):
        for thing in (*NO_SEQUENCES, []):
            self.fails(BadRow, (0,), line_picture, thing)
        for thing in (-1, 100, *NO_NUMBERS):
            self.fails(BadRow, (1,), line_picture, [1, thing, None])


class Constructor(Case):
    def test_attributes(self):
        for shape in (list, tuple):
            told = Squares(shape([shape([0, 1]), shape([2, 3]), shape([4, 99])]), shape([shape([2, 1]), shape([0, 0])]))
            self.same(told.levels, ((0, 1), (2, 3), (4, 99)))
            self.same(told.places, ((2, 1), (0, 0)))

    def test_levels_are_1_to_60(self):
        self.same(len(Squares([[0]] * 60, [(59, 0)]).levels), 60)
        for thing in (*NO_SEQUENCES, [], [[0]] * 61):
            self.fails(BadSquares, (0, "levels"), Squares, thing, None)

    def test_columns_are_1_to_60(self):
        self.same(len(Squares([[0] * 60], [(0, 59)]).levels[0]), 60)
        for thing in (*NO_SEQUENCES, [], [0] * 61):
            self.fails(BadSquares, (0, "level"), Squares, [thing], None)
        for thing in (*NO_SEQUENCES, [], [0], [0, 0, 0]):
            self.fails(BadSquares, (1, "level"), Squares, [[0, 0], thing, [True]], None)

    def test_first_level_with_a_wrong_colour(self):
        for thing in (-1, 100, *NO_NUMBERS):
            self.fails(BadSquares, (1, "colour"), Squares, [[0, 0], [0, thing], [0]], None)

    def test_700_squares_and_more(self):
        for levels, columns in ((35, 20), (14, 50), (50, 14), (60, 11), (11, 60)):
            self.same(len(picture_of_squares(Squares([[0] * columns] * levels, [(0, 0)]))), levels * columns)
        for levels, columns in ((36, 20), (60, 12), (12, 60), (27, 26), (60, 60)):
            self.fails(BadSquares, (0, "squares"), Squares, [[0] * columns] * levels, None)
        self.fails(BadSquares, (59, "colour"), Squares, [[0] * 60] * 59 + [[100] * 60], None)

    def test_places_are_1_to_4(self):
        level = [[0, 0, 0]]
        self.same(len(Squares([[0] * 4], [(0, k) for k in range(4)]).places), 4)
        for thing in (*NO_SEQUENCES, [], [(0, k) for k in (0, 1, 2, 0, 1)]):
            self.fails(BadSquares, (0, "places"), Squares, level, thing)

    def test_first_wrong_place(self):
        wrong = [(2, 0), (0, 3), (-1, 0), (0, -1), (0,), (0, 0, 0), (), None, "00", {0, 1}, (1, 2)]
        wrong += [(thing, 0) for thing in NO_NUMBERS] + [(0, thing) for thing in NO_NUMBERS]
        for place in wrong:
            self.fails(BadSquares, (1, "place"), Squares, [[0] * 3] * 2, [(1, 2), place, None])

    def test_lists_that_change_later_have_no_effect(self):
        levels, places = [[0, 1], [2, 3]], [[0, 0]]
        told = Squares(levels, places)
        levels[0][0], places[0][0] = 9, 1
        levels.append([]), places.append([1, 1])
        self.same((told.levels, told.places), (((0, 1), (2, 3)), ((0, 0),)))

    def test_equality(self):
        told = Squares([[0, 1]], [(0, 0)])
        self.assertTrue(told == Squares(((0, 1),), [[0, 0]]))
        self.assertFalse(told != Squares(((0, 1),), [[0, 0]]))
        for other in (Squares([[0, 2]], [(0, 0)]), Squares([[0, 1]], [(0, 1)]), line_picture([0, 1]), None, ((0, 1),)):
            self.assertFalse(told == other)
            self.assertTrue(told != other)


class PictureOfSquares(Case):
    def test_cells_level_by_level(self):
        squares = Squares([[0, 1, 2], [3, 4, 5]], [(1, 0), (0, 2)])
        ties = [(0, 1), (1, 2), (3, 4), (4, 5), (0, 3), (1, 4), (2, 5)]
        self.gives(Picture(range_row(6), ties, [3, 2]), picture_of_squares, squares)

    def test_one_level_and_one_column(self):
        self.gives(line_picture([5, 6, 7]), picture_of_squares, Squares([[5, 6, 7]], [(0, 0), (0, 2)]))
        self.gives(line_picture([5, 6, 7]), picture_of_squares, Squares([[5], [6], [7]], [(0, 0), (2, 0)]))
        self.gives(Picture([5], [], [0]), picture_of_squares, Squares([[5]], [(0, 0)]))

    def test_ties_of_all_sizes(self):
        for levels in range(1, 5):
            for columns in range(1, 5):
                squares = Squares([[0] * columns] * levels, [(levels - 1, columns - 1)])
                where = [(level, column) for level in range(levels) for column in range(columns)]
                due = [
                    (one, other) for one in range(len(where)) for other in range(one + 1, len(where))
                    if abs(where[one][0] - where[other][0]) + abs(where[one][1] - where[other][1]) == 1
                ]
                self.gives(Picture([0] * len(where), due, [len(where) - 1]), picture_of_squares, squares)


def range_row(many):
    return list(range(many))
