"""[9.1] to [9.4], [9.7], [9.8]: two hands, what the first one can force, and their books."""

import itertools
import random
import time

from spreadhues.errors import BadHands, BadWish, NoStanding, TooMany
from spreadhues.fewest import Fewest, fewest_pours
from spreadhues.hands import Book, Forced, Kept, check_hands, forced, least_hands
from spreadhues.pictures import Picture
from tests.helpers import (
    NO_NUMBERS, NO_SEQUENCES, Case, all_pictures, all_wishes, chance_picture, line_of_patches, naive_holds,
    naive_poured, wrong_wishes,
)

PICTURE = Picture([0, 1, 0, 2], [(0, 1), (1, 2), (2, 3)], [0, 2, 3])


class Naive:
    """A play told cell by cell: all couples to which it leads, and the ranks by the words of [9.2]."""

    def __init__(self, picture, mine, theirs, colours, aim):
        self.picture, self.aim = picture, aim
        self.pours = [sorted(itertools.product(marks, colours)) for marks in (mine, theirs)]
        self.couples, waiting = {}, [(picture.colours, 0)]
        while waiting:
            couple = waiting.pop()
            if couple not in self.couples:
                holds = naive_holds(couple[0], picture.ties, picture.marks, aim)
                self.couples[couple] = () if holds else tuple(self.behind(couple[0], p) for p in self.pours[couple[1]])
                waiting += [(standing, 1 - couple[1]) for standing in self.couples[couple]]
        self.ranks = {standing: 0 for (standing, hand), behind in self.couples.items() if not hand and not behind}
        while True:
            found = {
                standing: self.worth(standing) for (standing, hand), behind in self.couples.items()
                if hand == 0 and standing not in self.ranks and self.worth(standing) is not None
            }
            if not found:
                break
            # all that are found at once have the same rank: one more than the greatest known before
            self.ranks.update(found)

    def behind(self, standing, pour):
        return naive_poured(standing, self.picture.ties, self.picture.marks, pour)

    def left(self, standing):
        """The greatest rank behind their pours, 0 where the aim holds, None if there is none."""
        behind = self.couples[standing, 1]
        ranks = [self.ranks.get(other) for other in behind] or [0]
        return None if None in ranks else max(ranks)

    def worth(self, standing):
        left = [self.left(other) for other in self.couples[standing, 0]]
        left = [rank for rank in left if rank is not None]
        return 1 + min(left) if left else None

    def due(self):
        start = self.picture.colours
        if start in self.ranks:
            rows = []
            for standing, rank in sorted(self.ranks.items()):
                if rank > 0:
                    pours = [p for p in self.pours[0] if self.left(self.behind(standing, p)) == rank - 1]
                    rows.append((standing, rank, pours[0]))
            return Forced(self.ranks[start], Book(tuple(rows)))
        rows = []
        for (standing, hand), behind in sorted(self.couples.items()):
            if hand == 1 and behind:
                pours = [p for p in self.pours[1] if self.behind(standing, p) not in self.ranks]
                rows.extend([(standing, None, pours[0])] if pours else [])
        return Kept(Book(tuple(rows)))


def marks_parts(marks):
    for many in range(1, len(marks) + 1):
        yield from itertools.combinations(sorted(marks), many)


class Check(Case):
    def test_what_is_returned(self):
        self.gives(((0,), (2,), (5,)), check_hands, PICTURE, (0,), (2,), (5,))
        self.gives(((0, 1, 2), (0, 2), (0, 5, 99)), check_hands, PICTURE, (2, 0, 1), (2, 0), (5, 99, 0))
        self.gives(((0, 1, 2, 3),) * 2 + ((1,),), check_hands, Picture([0] * 4, [], [3, 2, 1, 0]), (3, 1, 0, 2),
                   (0, 1, 2, 3), (1,))

    def test_words(self):
        marks = [*NO_SEQUENCES, (), (0, 0), (3,), (0, -1), *((thing,) for thing in NO_NUMBERS), (0, 1, 2, 0)]
        colours = [*NO_SEQUENCES, (), (0, 0), (0, 1, 2, 3), (100,), (-1,), *((0, thing) for thing in NO_NUMBERS)]
        actions = (check_hands, lambda *given: forced(*given, None), lambda *given: least_hands(*given, None))
        for action in actions:
            for thing in marks:
                self.fails(BadHands, ("mine",), action, PICTURE, thing, None, None)
                self.fails(BadHands, ("theirs",), action, PICTURE, (0,), thing, None)
            for thing in colours:
                self.fails(BadHands, ("colours",), action, PICTURE, (0,), (0,), thing)


class Errors(Case):
    def test_wish_then_patches(self):
        great = line_of_patches(9, 3, [0, 17])
        for action in (forced, least_hands):
            for thing in wrong_wishes(18, 2):
                self.fails(BadWish, (thing,), action, great, (0,), (1,), (0,), thing)
            self.fails(TooMany, (8,), action, great, (0,), (1,), (0,), ("colour", 0, 0))
            self.fails(BadHands, ("mine",), action, great, (2,), (2,), (0, 0), None)
            action(line_of_patches(8, 3, [0, 15]), (0,), (1,), (0, 1, 2), ("all one",))

    def test_2000_couples(self):
        hands, colours = ((0, 1, 2, 3), (0, 1, 2, 3)), (0, 1, 2)
        just = Picture([1, 1, 0, 1, 1, 0, 3, 0], [(0, 7), (1, 6), (1, 7), (2, 4), (3, 5), (4, 5), (5, 6)], [0, 6, 4, 5])
        one = Picture([1, 2, 1, 2, 0, 0, 1, 3],
                      [(0, 4), (0, 7), (1, 2), (1, 3), (1, 4), (2, 7), (3, 5), (3, 7), (5, 6)], [4, 7, 2, 6])
        for picture, wish in ((just, ("all one",)), (one, ("one", 0, 1))):
            self.assertEqual(len(Naive(picture, *hands, colours, wish).couples), 2000)
            self.assertEqual(forced(picture, *hands, colours, wish), Naive(picture, *hands, colours, wish).due())
            least_hands(picture, *hands, colours, wish)
        more = Picture([2, 0, 1, 0, 2, 2, 0, 1], [(0, 3), (0, 6), (1, 5), (2, 6), (3, 4), (3, 5), (5, 6), (6, 7)],
                       [0, 7, 4, 2])
        self.assertEqual(len(Naive(more, *hands, colours, ("all one",)).couples), 2002)
        for action in (forced, least_hands):
            self.fails(TooMany, (2000,), action, more, *hands, colours, ("all one",))
        # errors are those for all of my marks, also where one of them alone leads to less
        forced(more, (0,), (1,), colours, ("all one",))
        forced(more, (0, 1), (1,), colours, ("all one",))

    def test_the_aim_bounds_the_couples(self):
        # play ends at once where the aim holds, however much there would be to pour
        chance = random.Random(99)
        for _ in range(30):
            picture = chance_picture(chance, 8, 3, 4, 0.35)
            aim = ("colour", 0, picture.colours[picture.marks[0]])
            self.assertEqual(forced(picture, (0, 1, 2, 3), (0, 1, 2, 3), (0, 1, 2), aim), Forced(0, Book(())))


class Examples(Case):
    def test_forced(self):
        line = Picture([0, 1], [(0, 1)], [0, 1])
        told = forced(line, (0,), (1,), (0, 1), ("one", 0, 1))
        self.assertEqual(told, Forced(1, Book((((0, 1), 1, (0, 1)),))))
        self.assertEqual(forced(line, [0], [1], [1, 0], ["one", 0, 1]), told)
        # where they pour first into what I want
        self.assertEqual(forced(line, (1,), (0,), (1, 2), ("colour", 0, 0)), Forced(0, Book(())))

    def test_rank_1_where_each_answer_brings_the_aim(self):
        # mark 1 can only be poured in 1: then it is one with mark 0
        line = Picture([1, 2], [(0, 1)], [0, 1])
        told = forced(line, (0,), (1,), (1,), ("one", 0, 1))
        self.assertEqual(told, Forced(1, Book((((1, 2), 1, (0, 1)),))))

    def test_kept(self):
        apart = Picture([0, 1], [], [0, 1])
        told = forced(apart, (0,), (1,), (0, 1), ("one", 0, 1))
        self.assertEqual(told, Kept(Book((((0, 0), None, (1, 0)), ((0, 1), None, (1, 0)), ((1, 0), None, (1, 0)),
                                          ((1, 1), None, (1, 0))))))

    def test_books(self):
        book = Book((((0, 1), 1, (0, 1)), ((0, 1), 2, (5, 5)), ((2, 2), None, [3])))
        self.same(book.pour_for((0, 1)), (0, 1))
        self.same(book.pour_for((2, 2)), [3])
        for standing in ((1, 0), (0,), (), None, (False, 1), (0, True), ((0, 1),)):
            with self.assertRaises(NoStanding) as caught:
                book.pour_for(standing)
            self.assertIs(caught.exception.standing, standing)

    def test_least_hands(self):
        line = Picture([0, 1, 0, 1], [(0, 1), (1, 2)], [0, 2, 3])
        self.gives(((0,), (1,)), least_hands, line, (2, 1, 0), (2,), (0, 1), ("one", 0, 1))
        self.gives(((0,),), least_hands, line, (0, 2), (2,), (0, 1), ("one", 0, 1))
        self.gives((), least_hands, line, (2,), (2,), (0, 1), ("one", 0, 1))
        # marks 0 and 2 are both needed, told in any order
        picture = Picture([0, 1, 2], [(0, 1), (0, 2)], [1, 2, 0])
        for mine in ((0, 1, 2), (2, 1, 0), (2, 0)):
            self.gives(((0, 2),), least_hands, picture, mine, (1,), (2,), ("one", 0, 1))
        # the aim holds at the beginning
        self.gives(((0,), (2,)), least_hands, line, (2, 0), (2,), (0, 1), ("colour", 0, 0))


class Agreement(Case):
    def check(self, *given):
        naive = Naive(*given)
        told = forced(*given)
        self.assertEqual(told, naive.due())
        self.same(told.book.rows, naive.due().book.rows)
        return told, naive

    def test_all_small_pictures(self):
        hands = (((0,), (1,)), ((0, 1), (1,)), ((1,), (1, 0)))
        for picture in all_pictures(3, 3, [0, 2]):
            for wish in list(all_wishes(3, 2, 3))[::2]:
                for mine, theirs in hands[:2] if wish[0] == "one" else hands[::2]:
                    told, naive = self.check(picture, mine, theirs, (0, 1), wish)
                    self.played(picture, told, naive)

    def test_larger_pictures(self):
        chance = random.Random(100)
        for _ in range(60):
            marks = chance.randrange(2, 5)
            picture = chance_picture(chance, chance.randrange(4, 7), 3, marks, 0.4)
            mine, theirs = (chance.sample(range(marks), chance.randrange(1, 3)) for _ in range(2))
            colours = chance.sample(range(3), chance.randrange(1, 4))
            wish = chance.choice(list(all_wishes(len(picture), marks, 3)))
            told, naive = self.check(picture, mine, theirs, colours, wish)
            self.played(picture, told, naive)

    def played(self, picture, told, naive):
        """All plays of the other hand, pour by pour, against the book."""
        hand = 0 if isinstance(told, Forced) else 1
        reached = {(picture.colours, 0, 0)}
        seen = set()
        while reached:
            standing, turn, mine = reached.pop()
            if (standing, turn, mine) in seen:
                continue
            seen.add((standing, turn, mine))
            if naive_holds(standing, picture.ties, picture.marks, naive.aim):
                self.assertEqual(hand, 0)
                self.assertLessEqual(mine, told.rank)
                continue
            if hand == 0:
                self.assertLess(mine + turn, told.rank + 1)
            pours = [told.book.pour_for(standing)] if turn == hand else naive.pours[turn]
            count = mine + (turn == 0) if hand == 0 else 0
            reached |= {(naive.behind(standing, pour), 1 - turn, count) for pour in pours}

    def test_least_hands(self):
        chance = random.Random(101)
        for _ in range(60):
            marks = chance.randrange(2, 5)
            picture = chance_picture(chance, 5, 3, marks, 0.4)
            mine = chance.sample(range(marks), chance.randrange(1, marks + 1))
            theirs = chance.sample(range(marks), chance.randrange(1, marks + 1))
            wish = chance.choice(list(all_wishes(5, marks, 2)))
            wins = [
                part for part in marks_parts(mine)
                if isinstance(forced(picture, part, theirs, (0, 1), wish), Forced)
            ]
            due = tuple(one for one in wins if not any(set(other) < set(one) for other in wins))
            self.gives(due, least_hands, picture, mine, theirs, (0, 1), wish)

    def test_further_marks(self):
        """[9.8]."""
        chance = random.Random(102)
        for _ in range(60):
            picture = chance_picture(chance, chance.randrange(3, 6), 3, 3, 0.45)
            wish = chance.choice(list(all_wishes(len(picture), 3, 3)))

            def rank(mine, theirs):
                return getattr(forced(picture, mine, theirs, (0, 1), wish), "rank", 10 ** 9)

            for mine, theirs in itertools.product(marks_parts(range(3)), repeat=2):
                own = rank(mine, theirs)
                for mark in range(3):
                    if mark not in mine:
                        self.assertLessEqual(rank((*mine, mark), theirs), own)
                    if mark not in theirs:
                        self.assertGreaterEqual(rank(mine, (*theirs, mark)), own)
                both = set(mine) | set(theirs)
                if own < 10 ** 9 and len(both) <= 2:
                    told = fewest_pours(picture, list(both), (0, 1), wish)
                    self.assertIs(type(told), Fewest)
                    self.assertLessEqual(told.number, 2 * own)


class Greatest(Case):
    def test_8_patches_with_three_colours(self):
        chance = random.Random(103)
        begun = time.perf_counter()
        for _ in range(20):
            picture = chance_picture(chance, 8, 3, 4, 0.35)
            for given in ((picture, (0, 1), (2, 3)), (picture, (0, 1, 2, 3), (0,)), (picture, (3,), (3,))):
                try:
                    least_hands(*given, (0, 1, 2), ("all one",))
                except TooMany as error:
                    self.assertEqual(error.most, 2000)
        self.assertLess(time.perf_counter() - begun, 20)

    def test_700_cells(self):
        picture = Picture([cell // 100 % 3 for cell in range(700)], [(cell, cell + 1) for cell in range(699)], [0, 699])
        told = forced(picture, (0,), (1,), (0, 1, 2), ("one", 0, 1))
        self.assertIs(type(told), Forced)
        self.assertTrue(all(len(row[0]) == 700 for row in told.book.rows))
