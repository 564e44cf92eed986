"""[5.8], [5.9]: drawings judged, and drawings of pictures."""

import itertools

from spreadhues.bars import drawn_bars
from spreadhues.bundles import Bundle
from spreadhues.drawing import drawing_fault, squares_like
from spreadhues.errors import BadColour, NoRoom, NotSeparate, TooMany, WallUsed
from spreadhues.islands import is_separate
from spreadhues.pictures import Picture
from spreadhues.squares import Squares, line_picture
from spreadhues.tables import table_of
from tests.helpers import NO_NUMBERS, Case, all_pictures, all_scripts, naive_islands, naive_run
from tests.test_bars import least_lots, naive_picture, two_lots
from tests.test_tables import STAR, naive_moments

W = 9
BUNDLE = Bundle((0, 2, 3), [(0, 1, (0, 1, 2)), (0, 2, (0, 1, 3)), (1, 2, (2, 1, 3))])


class Fault(Case):
    def judged(self, word, levels, places, bundle, wall=W):
        self.gives(word, lambda one, other: drawing_fault(Squares(one, other), bundle, wall), levels, places)

    def test_its_own_drawings_are_right(self):
        for bundle in (BUNDLE, Bundle((5,), ()), Bundle((5, 5, 6), [(0, 1, (5,)), (1, 2, (5, 6))])):
            self.assertIsNone(drawing_fault(drawn_bars(bundle, W), bundle, W))
        # other drawings than its own may be right, too
        self.judged(None, ((0, 1, 2),), ((0, 0), (0, 2)), Bundle((0, 2), [(0, 1, (0, 1, 2))]))
        self.judged(None, ((0, 2),), ((0, 0), (0, 1)), Bundle((0, 2), [(0, 1, (0, 2)), (0, 1, (0, 1, 2))]))

    def test_marks(self):
        for places in (((0, 0),), ((0, 0), (0, 2), (0, 1))):
            self.judged("marks", ((0, 1, 2),), places, Bundle((0, 2), [(0, 1, (0, 1, 2))]))

    def test_colour(self):
        self.judged("colour", ((0, 1, 2),), ((0, 2), (0, 0)), Bundle((0, 2), [(0, 1, (0, 1, 2))]))
        self.judged("colour", ((0, 1, 3),), ((0, 0), (0, 2)), Bundle((0, 2), [(0, 1, (0, 1, 2))]))

    def test_room(self):
        bundle = Bundle((0, 2), [(0, 1, (0, 1, 2))])
        # three levels of four columns are told
        self.judged(None, ((0, 1, 2, W), (W,) * 4, (W,) * 4), ((0, 0), (0, 2)), bundle)
        self.judged("room", ((0, 1, 2, W), (W,) * 4, (W,) * 4, (W,) * 4), ((0, 0), (0, 2)), bundle)
        self.judged("room", ((0, 1, 2, W, W),), ((0, 0), (0, 2)), bundle)
        self.judged("room", ((0,), (0,)), ((0, 0), (1, 0)), Bundle((0, 0), [(0, 1, (0,))]))

    def test_parting(self):
        self.judged("parting", ((0, 0),), ((0, 0), (0, 1)), Bundle((0, 0), [(0, 1, (0, 1, 0))]))
        apart = Bundle((0, 0, 1), [(0, 1, (0,)), (1, 2, (0, 1))])
        self.judged("parting", ((0, W, 0, 1),), ((0, 0), (0, 2), (0, 3)), apart)

    def test_rows(self):
        bundle = Bundle((0, 2), [(0, 1, (0, 1, 2))])
        for level in ((0, 3, 2), (0, W, 2), (0, 2, 2), (0, 1, 3, 2)):
            self.judged("rows", (level,), ((0, 0), (0, len(level) - 1)), bundle)
        # a second way in which the first one is not hidden
        self.judged("rows", ((0, 1, 2, W), (0, 3, 2, W)), ((0, 0), (0, 2)), bundle)

    def test_island(self):
        """The star has all the rows, but they meet in one cell."""
        self.judged("island", ((0, 1, 2), (W, 3, W)), ((0, 0), (0, 2), (1, 1)), BUNDLE)

    def test_the_first_word(self):
        bundle = Bundle((0, 2), [(0, 1, (0, 1, 2))])
        self.judged("marks", ((3,) * 9,), ((0, 0),), bundle)
        self.judged("colour", ((3,) * 9,), ((0, 0), (0, 1)), bundle)
        self.judged("room", ((0,) + (W,) * 8 + (2,),), ((0, 0), (0, 9)), bundle)
        self.judged("parting", ((0, 0, 0, 1),), ((0, 0), (0, 1), (0, 2)), Bundle((0, 0, 0), [(0, 1, (0, 1, 0))]))
        self.judged("rows", ((0, 1, 2), (W, 4, W)), ((0, 0), (0, 2), (1, 1)), Bundle((0, 2, 4), [(0, 1, (0, 1, 2))]))

    def test_more_than_14_wild_patches(self):
        bundle = two_lots(3, 6)
        squares = drawn_bars(bundle, W)
        with self.assertRaises(TooMany) as caught:
            drawing_fault(squares, bundle, W)
        self.assertEqual(caught.exception.most, 14)
        # words ahead of "rows" are still told
        self.assertEqual(drawing_fault(Squares(squares.levels, squares.places[:1]), bundle, W), "marks")
        self.assertEqual(drawing_fault(squares, Bundle((90, 92), [(0, 1, (90, 92))]), W), "colour")

    def test_errors(self):
        squares = Squares([[0, 1]], [(0, 0)])
        for thing in (-1, 100, *NO_NUMBERS):
            self.fails(BadColour, (thing,), drawing_fault, squares, BUNDLE, thing)
        for wall in (0, 1, 2, 3):
            self.fails(WallUsed, (wall,), drawing_fault, squares, BUNDLE, wall)
        # the walls' colour in rows that are not least is used, too
        self.fails(WallUsed, (7,), drawing_fault, squares, Bundle((0, 2), [(0, 1, (0, 2)), (0, 1, (0, 7, 2))]), 7)


class Like(Case):
    def test_an_example(self):
        picture = Picture([0, 2, 3, 1, 1, 1], [(0, 3), (3, 1), (0, 4), (4, 2), (1, 5), (5, 2)], [0, 1, 2])
        self.assertIsNone(drawing_fault(squares_like(picture, W), BUNDLE, W))

    def test_all_small_separate_pictures(self):
        pictures = list(all_pictures(4, 2, [0, 3])) + list(all_pictures(4, 2, [3, 1, 0])) + list(all_pictures(4, 2, [0, 1, 2, 3]))
        for number, picture in enumerate(pictures[::13]):
            if not is_separate(picture):
                continue
            drawn = naive_picture(squares_like(picture, W))
            self.assertEqual(table_of(drawn, (W,)), table_of(picture))
            for island in naive_islands(drawn, (W,)):
                self.assertLessEqual(least_lots(drawn, island), 2)
            scripts = list(all_scripts(len(picture.marks), 3, 3))
            for script in scripts[number % 97::97]:
                self.same(naive_moments(drawn, script), naive_moments(picture, script))

    def test_errors(self):
        for thing in (-1, 100, *NO_NUMBERS):
            self.fails(BadColour, (thing,), squares_like, STAR, thing)
        for wall in (0, 1, 2, 3):
            self.fails(WallUsed, (wall,), squares_like, STAR, wall)
        # a cell far from all marks has the colour
        self.fails(WallUsed, (4,), squares_like, Picture([0, 4], [], [0]), 4)
        self.fails(NotSeparate, (1,), squares_like, STAR, W)
        self.fails(TooMany, (14,), squares_like, line_picture([98, *range(15), 99]), 50)

    def test_too_many_patches_come_ahead_of_islands(self):
        star = Picture([0, 1, 2, 3, *range(10, 24)], [(0, 1), (1, 2), (1, 3)], [0, 2, 3])
        self.fails(TooMany, (14,), squares_like, star, W)

    def layered(self, sizes):
        layers, colours = [[0]], [98]
        for size in sizes:
            layers.append(list(range(len(colours), len(colours) + size)))
            colours.extend(layers[-1])
        layers.append([len(colours)])
        ties = [tie for one, other in zip(layers, layers[1:]) for tie in itertools.product(one, other)]
        return Picture([*colours, 99], ties, [0, len(colours)])

    def test_40_ways_and_room(self):
        # 48, 36 and 27 least rows, all of one length
        self.fails(TooMany, (40,), squares_like, self.layered((3, 4, 4)), 50)
        self.fails(NoRoom, (5 * 74,), squares_like, self.layered((3, 4, 3)), 50)
        drawn = naive_picture(squares_like(self.layered((3, 3, 3)), 50))
        self.assertEqual(len(naive_islands(drawn, (50,))), 27)
        # a long way alone
        long = line_picture([98, *range(14), 99])
        self.assertIsNone(drawing_fault(squares_like(long, 50), Bundle((98, 99), [(0, 1, long.colours)]), 50))
        moments = naive_run(long.colours, long.ties, long.marks, [(0, k) for k in range(12)])
        drawn = naive_picture(squares_like(long, 50))
        self.same(naive_moments(drawn, [(0, k) for k in range(12)]), tuple(moment[:2] for moment in moments))
