"""[9.5], [9.6]: books judged, and play by them."""

import itertools
import random
import time

from spreadhues.answers import Played, book_fault, play_hands
from spreadhues.errors import BadHands, BadMost, BadWish, ForeignPour, NoStanding, TooMany
from spreadhues.hands import Book, Forced, Kept, forced
from spreadhues.pictures import Picture
from tests.helpers import (
    NO_NUMBERS, NO_SEQUENCES, Case, all_pictures, all_wishes, chance_picture, line_of_patches, naive_holds,
    naive_poured, wrong_wishes,
)
from tests.test_hands import Naive

LINE = Picture([0, 1, 2, 1], [(0, 1), (1, 2), (2, 3)], [0, 3])
ROW = ("one", 0, 1)


def judge(*given):
    return book_fault(*given, None)


class Judged(Case):
    """What all tests of faults share."""

    def judged(self, word, answer, given):
        self.gives(word, lambda *passed: book_fault(*passed, answer), *given)

    def spoilt(self, told, given, rows):
        """The judge's word for the told answer with other rows in its book."""
        self.assertNotEqual(tuple(rows), told.book.rows)
        book = Book(tuple(rows))
        return book_fault(*given, Forced(told.rank, book) if isinstance(told, Forced) else Kept(book))


class Errors(Case):
    def test_as_of_forced(self):
        great = line_of_patches(9, 3, [0, 17])
        for thing in (*NO_SEQUENCES, (), (2,), (0, 0), (True,)):
            self.fails(BadHands, ("mine",), judge, great, thing, None, None, None)
            self.fails(BadHands, ("theirs",), judge, great, (0,), thing, None, None)
        self.fails(BadHands, ("colours",), judge, great, (0,), (0,), (0, 1, 2, 3), None)
        for thing in wrong_wishes(18, 2):
            self.fails(BadWish, (thing,), judge, great, (0,), (1,), (0,), thing)
        self.fails(TooMany, (8,), judge, great, (0,), (1,), (0,), ROW)
        wide = Picture([2, 0, 1, 0, 2, 2, 0, 1], [(0, 3), (0, 6), (1, 5), (2, 6), (3, 4), (3, 5), (5, 6), (6, 7)],
                       [0, 7, 4, 2])
        self.fails(TooMany, (2000,), judge, wide, (0, 1, 2, 3), (0, 1, 2, 3), (0, 1, 2), ("all one",))


class ForcedFault(Judged):
    given = (LINE, (0,), (1,), (0, 1, 2), ROW)

    def setUp(self):
        self.told = forced(*self.given)
        self.assertIs(type(self.told), Forced)
        self.assertGreater(self.told.rank, 1)

    def test_answer(self):
        for thing in (None, True, 0, (), "Forced", Forced, Book(()), (1, ()), Played((), LINE, True)):
            self.judged("answer", thing, self.given)

    def test_right(self):
        self.judged(None, self.told, self.given)
        # in any order, and with further rows, also for standings to which no play leads
        rows = self.told.book.rows
        self.judged(None, Forced(self.told.rank, Book(rows[::-1])), self.given)
        self.judged(None, Forced(self.told.rank, Book(list(rows[::-1]))), self.given)
        self.judged(None, Forced(self.told.rank, Book((*rows, ((7, 1, 1, 1), 1, (0, 1))))), self.given)
        self.judged(None, Forced(self.told.rank, Book((((7, 1, 1, 1), 9, (0, 1)), *rows))), self.given)
        # behind the pour of a further row mark 1 is still apart
        self.same(self.spoilt(self.told, self.given, (*rows, ((7, 1, 7, 7), 1, (0, 1)))), "pour")

    def test_less_rows(self):
        """The rows that the book's own play needs are enough."""
        rows = {row[0]: row for row in self.told.book.rows}
        naive, needed, waiting = Naive(*self.given), {}, [LINE.colours]
        while waiting:
            standing = waiting.pop()
            if naive.couples[standing, 0] and standing not in needed:
                needed[standing] = rows[standing]
                behind = naive.behind(standing, rows[standing][2])
                waiting += naive.couples[behind, 1]
        self.assertLess(len(needed), len(rows))
        self.judged(None, Forced(self.told.rank, Book(tuple(needed.values()))), self.given)
        for standing in needed:
            less = tuple(row for row in needed.values() if row[0] != standing)
            self.judged("start" if standing == LINE.colours else "pour", Forced(self.told.rank, Book(less)), self.given)

    def test_row(self):
        rows = self.told.book.rows
        standing, rank, pour = rows[0]
        wrong = [
            None, 5, (), (standing, rank), (standing, rank, pour, 0), (None, rank, pour), (standing[1:], rank, pour),
            ((*standing, 0), rank, pour), ((100, *standing[1:]), rank, pour), ((-1, *standing[1:]), rank, pour),
            (standing, rank, None), (standing, rank, (0,)), (standing, rank, (1, 1)), (standing, rank, (0, 3)),
            (standing, rank, (False, 1)), (standing, rank, (0, True)),
        ]
        wrong += [((thing, *standing[1:]), rank, pour) for thing in NO_NUMBERS]
        wrong += [(standing, thing, pour) for thing in (0, -1, *NO_NUMBERS)]
        for row in wrong:
            self.judged("row", Forced(self.told.rank, Book((row, *rows[1:]))), self.given)
            self.judged("row", Forced(None, Book((*rows, rows[0], row))), self.given)

    def test_twice(self):
        rows = self.told.book.rows
        for row in (rows[0], (rows[0][0], 50, (0, 2))):
            self.judged("twice", Forced(self.told.rank, Book((*rows, row))), self.given)
            self.judged("twice", Forced(None, Book((((1, 1, 1, 1), 1, (0, 1)), *rows, row))), self.given)

    def test_aim(self):
        rows = self.told.book.rows
        for standing in ((1, 1, 1, 1), (9, 9, 9, 9)):
            self.judged("aim", Forced(self.told.rank, Book((*rows, (standing, 1, (0, 1))))), self.given)
            self.judged("aim", Forced(True, Book(((standing, 1, (0, 1)),))), self.given)

    def test_start(self):
        rows = self.told.book.rows
        rank = self.told.rank
        for wrong in (rank + 1, rank - 1, 0, -1, *NO_NUMBERS):
            self.judged("start", Forced(wrong, Book(rows)), self.given)
        others = tuple(row for row in rows if row[0] != LINE.colours)
        self.judged("start", Forced(rank, Book(others)), self.given)
        self.judged("start", Forced(0, Book(())), self.given)

    def test_start_where_the_aim_holds(self):
        given = (LINE, (0,), (1,), (0, 1), ("colour", 0, 0))
        self.judged(None, Forced(0, Book(())), given)
        for rank in (1, 2, -1, *NO_NUMBERS):
            self.judged("start", Forced(rank, Book(())), given)
        self.judged("aim", Forced(0, Book(((LINE.colours, 1, (0, 0)),))), given)
        self.judged("start", Kept(Book(())), given)
        # a row for a standing elsewhere has to be right, too
        self.judged(None, Forced(0, Book((((5, 5, 5, 0), 1, (0, 0)),))), given)
        self.judged("pour", Forced(0, Book((((5, 5, 5, 0), 1, (0, 1)),))), given)

    def test_true_is_no_rank_of_1(self):
        given = (Picture([0, 1], [(0, 1)], [0, 1]), (0,), (1,), (0, 1), ROW)
        rows = (((0, 1), 1, (0, 1)),)
        self.judged(None, Forced(1, Book(rows)), given)
        self.judged("start", Forced(True, Book(rows)), given)
        self.judged("start", Forced(1, Book((((1, 0), 1, (0, 0)),))), given)

    def test_pour(self):
        rows = self.told.book.rows
        for at, (standing, rank, pour) in enumerate(rows):
            for colour in (0, 1, 2):
                row = (standing, rank, (0, colour))
                if row != rows[at]:
                    word = self.spoilt(self.told, self.given, (*rows[:at], row, *rows[at + 1:]))
                    naive = Naive(*self.given)
                    left = naive.left(naive.behind(standing, row[2]))
                    self.same(word, None if left is not None and left < rank else "pour")
        # a row of a lesser rank lacks
        first = next(row for row in rows if row[0] == LINE.colours)
        self.judged("pour", Forced(first[1], Book((first,))), self.given)

    def test_rank(self):
        rows = tuple((standing, rank + 1, pour) for standing, rank, pour in self.told.book.rows)
        self.judged("rank", Forced(self.told.rank + 1, Book(rows)), self.given)
        rows = tuple((standing, 3 * rank, pour) for standing, rank, pour in self.told.book.rows)
        self.judged("rank", Forced(3 * self.told.rank, Book(rows)), self.given)
        self.judged("start", Forced(self.told.rank, Book(rows)), self.given)

    def test_cells_of_one_patch_with_unlike_colours(self):
        """Standings to which no play leads may part the patches of the picture."""
        picture = Picture([0, 0, 1, 1], [(0, 1), (1, 2), (2, 3)], [0, 3])
        given = (picture, (0,), (1,), (0, 1), ROW)
        right = forced(*given)
        self.assertEqual(right, Forced(1, Book((((0, 0, 1, 1), 1, (0, 1)),))))
        # mark 0 is alone in its patch there: it takes in cell 1 first, and then the rest
        further = (((0, 1, 0, 0), 2, (0, 1)), ((1, 1, 0, 0), 1, (0, 0)))
        self.judged(None, Forced(1, Book(right.book.rows + further)), given)
        self.judged("pour", Forced(1, Book(right.book.rows + further[:1])), given)
        self.judged("pour", Forced(1, Book((*right.book.rows, (further[0][0], 1, (0, 1)), further[1]))), given)
        good = (((5, 1, 1, 1), 1, (0, 1)),)
        self.judged(None, Forced(1, Book(right.book.rows + good)), given)
        bad = (((5, 1, 1, 1), 1, (0, 0)),)
        self.judged("pour", Forced(1, Book(right.book.rows + bad)), given)
        self.judged("aim", Forced(1, Book(right.book.rows + (((5, 5, 5, 5), 1, (0, 0)),))), given)


class KeptFault(Judged):
    # mark 1 lies in a cell of its own, and has to be kept from the colour 0
    given = (Picture([0, 1, 2], [(0, 1)], [0, 2]), (0,), (1,), (0, 1), ("colour", 1, 0))

    def setUp(self):
        self.told = forced(*self.given)

    def test_right(self):
        self.assertIs(type(self.told), Kept)
        self.judged(None, self.told, self.given)
        for rows in (self.told.book.rows[::-1], list(self.told.book.rows), [*self.told.book.rows, ((0, 0, 9), None, (1, 1))]):
            self.judged(None, Kept(Book(rows)), self.given)

    def test_row(self):
        rows = self.told.book.rows
        standing, rank, pour = rows[0]
        wrong = [
            None, (), (standing, None), (standing, None, pour, None), (None, None, pour), (standing[1:], None, pour),
            (standing, 1, pour), (standing, 0, pour), (standing, False, pour), (standing, None, (0, 1)),
            (standing, None, (1, 2)), (standing, None, None), (standing, None, (True, 1)), (standing, None, (1, False)),
        ]
        wrong += [((thing, *standing[1:]), None, pour) for thing in (-1, 100, *NO_NUMBERS)]
        for row in wrong:
            self.judged("row", Kept(Book((row, *rows[1:]))), self.given)
            self.judged("row", Kept(Book((*rows, rows[0], row))), self.given)

    def test_twice_and_aim(self):
        rows = self.told.book.rows
        self.judged("twice", Kept(Book((*rows, rows[-1]))), self.given)
        self.judged("twice", Kept(Book((((1, 1, 0), None, (1, 1)), *rows, rows[0]))), self.given)
        for standing in ((1, 1, 0), (0, 8, 0)):
            self.judged("aim", Kept(Book((*rows, (standing, None, (1, 1))))), self.given)

    def test_start(self):
        self.judged("start", Kept(Book(())), self.given)
        behind = {naive_poured((0, 1, 2), ((0, 1),), (0, 2), (0, colour)) for colour in (0, 1)}
        for standing in behind:
            rows = tuple(row for row in self.told.book.rows if row[0] != standing)
            self.judged("start", Kept(Book(rows)), self.given)
        # the aim holds at the beginning, though no pour leads to it
        given = (Picture([0, 1], [], [0, 1]), (0,), (1,), (1,), ("colour", 0, 0))
        self.judged("start", Kept(Book((((1, 1), None, (1, 1)),))), given)
        # one of my pours leads to the aim
        near = (Picture([0, 1], [(0, 1)], [0, 1]), (0,), (1,), (0, 1), ROW)
        self.judged("start", Kept(Book((((0, 1), None, (1, 0)),))), near)

    def test_pour(self):
        naive = Naive(*self.given)
        rows = self.told.book.rows
        needed = {standing for standing, _, _ in rows}
        spoilt = 0
        for at, (standing, _, pour) in enumerate(rows):
            for colour in (0, 1):
                other = (1, colour)
                behind = naive.behind(standing, other)
                right = not naive_holds(behind, naive.picture.ties, naive.picture.marks, naive.aim) and all(
                    naive.behind(behind, mine) in needed for mine in naive.pours[0]
                )
                if other != pour:
                    word = self.spoilt(self.told, self.given, (*rows[:at], (standing, None, other), *rows[at + 1:]))
                    self.same(word, None if right else "pour")
                    spoilt += not right
        self.assertGreater(spoilt, 0)
        # a further row that leads away from the others
        self.judged("pour", Kept(Book((*rows, ((5, 6, 7), None, (1, 1))))), self.given)

    def test_a_forced_aim_is_not_kept(self):
        chance = random.Random(104)
        for _ in range(40):
            picture = chance_picture(chance, 5, 3, 2, 0.5)
            wish = chance.choice(list(all_wishes(5, 2, 2)))
            given = (picture, (0,), (1,), (0, 1), wish)
            naive = Naive(*given)
            told = forced(*given)
            rows = tuple(
                (standing, None, (1, 0)) for (standing, hand), behind in naive.couples.items() if hand and behind
            )
            if isinstance(told, Forced):
                self.assertIn(book_fault(*given, Kept(Book(rows))), ("start", "pour"))
            else:
                for rank in (0, 1, 3):
                    self.assertEqual(book_fault(*given, Forced(rank, Book(()))), "start")


class OwnAnswers(Judged):
    def test_all_small_pictures(self):
        for picture in all_pictures(3, 3, [0, 2]):
            for wish in list(all_wishes(3, 2, 3))[1::2]:
                for mine, theirs in (((0,), (1,)), ((0, 1), (0,))):
                    given = (picture, mine, theirs, (1, 0), wish)
                    self.assertIsNone(book_fault(*given, forced(*given)))

    def test_larger_pictures(self):
        chance = random.Random(105)
        for _ in range(60):
            marks = chance.randrange(2, 5)
            picture = chance_picture(chance, chance.randrange(4, 8), 3, marks, 0.4)
            mine, theirs = (chance.sample(range(marks), chance.randrange(1, 3)) for _ in range(2))
            wish = chance.choice(list(all_wishes(len(picture), marks, 3)))
            given = (picture, mine, theirs, (0, 1, 2), wish)
            told = forced(*given)
            self.assertIsNone(book_fault(*given, told))
            if told.book.rows:
                rows = [row for row in told.book.rows if chance.random() < 0.5]
                word = book_fault(*given, type(told)(told.rank, Book(tuple(rows))) if isinstance(told, Forced)
                                  else Kept(Book(tuple(rows))))
                self.assertIn(word, (None, "start", "pour"))

    def test_the_greatest_books(self):
        chance = random.Random(106)
        begun = time.perf_counter()
        for _ in range(20):
            picture = chance_picture(chance, 8, 3, 4, 0.35)
            given = (picture, (0, 1, 2, 3), (2, 3), (0, 1, 2), ("all one",))
            try:
                self.assertIsNone(book_fault(*given, forced(*given)))
            except TooMany as error:
                self.assertEqual(error.most, 2000)
        cells = Picture([cell // 88 % 3 for cell in range(700)], [(cell, cell + 1) for cell in range(699)], [0, 699])
        given = (cells, (0, 1), (0, 1), (0, 1, 2), ("all one",))
        self.assertIsNone(book_fault(*given, forced(*given)))
        self.assertLess(time.perf_counter() - begun, 20)


class Play(Case):
    def test_forced(self):
        given = (LINE, (0,), (1,), (0, 1, 2), ROW)
        told = forced(*given)
        for colours in itertools.product((0, 1, 2), repeat=told.rank - 1):
            rest, shown = list(colours), []

            def choose(picture):
                shown.append(picture)
                return [1, rest.pop(0)]

            played = play_hands(*given, told, choose)
            self.assertIs(type(played), Played)
            self.assertIs(played.held, True)
            self.assertLessEqual((len(played.pours) + 1) // 2, told.rank)
            self.follows(played, shown, 1)

    def follows(self, played, shown, turn):
        """The pours lead to the picture, and what was to choose saw the pictures in its turns."""
        standing, turns = LINE.colours, []
        for number, pour in enumerate(played.pours):
            self.same(pour, tuple(pour))
            if number % 2 == turn:
                turns.append(standing)
            standing = naive_poured(standing, LINE.ties, LINE.marks, pour)
        self.assertEqual([picture.colours for picture in shown], turns)
        self.assertEqual(played.picture, Picture(standing, LINE.ties, LINE.marks))
        self.assertTrue(all((picture.ties, picture.marks) == (LINE.ties, LINE.marks) for picture in shown))

    def test_kept(self):
        given = KeptFault.given
        told = forced(*given)
        self.assertIs(type(told), Kept)
        for most in (0, 1, 2, 23, 60):
            for row in ((0,), (1,), (0, 1), (1, 0, 0)):
                turns = itertools.cycle(row)
                played = play_hands(*given, told, lambda picture: (0, next(turns)), most)
                self.same((len(played.pours), played.held), (most, False))
        self.same(len(play_hands(*given, told, lambda picture: (0, 1)).pours), 24)
        self.same(len(play_hands(*given, told, lambda picture: (0, 1), most=7).pours), 7)

    def test_the_aim_at_the_beginning(self):
        for answer in (Forced(0, Book(())), Kept(Book(()))):
            played = play_hands(LINE, [0], [1], [0], ["colour", 0, 0], answer, None)
            self.assertEqual(played, Played((), LINE, True))
            self.same(played.pours, ())

    def test_the_aim_behind_a_pour_of_either_hand(self):
        picture = Picture([0, 1], [(0, 1)], [0, 1])
        book = Book((((0, 1), 1, (0, 2)), ((0, 1), 1, (0, 1))))
        # my pour of the first row does not bring the aim, theirs behind it does
        played = play_hands(picture, (0,), (1,), (1, 2), ROW, Forced(1, book), lambda now: (1, 2))
        self.assertEqual(played, Played(((0, 2), (1, 2)), Picture([2, 2], [(0, 1)], [0, 1]), True))
        # a book as a list of rows
        book = Book([[(0, 1), 1, [0, 2]]])
        played = play_hands(picture, (0,), (1,), (1, 2), ROW, Forced(1, book), None, 1)
        self.same(played.pours, ((0, 2),))
        self.assertEqual(played, Played(((0, 2),), Picture([2, 1], [(0, 1)], [0, 1]), False))

    def test_errors(self):
        told = Forced(0, Book(()))
        for thing in (*NO_SEQUENCES, (), (2,), (0, 0), (True,)):
            self.fails(BadHands, ("mine",), lambda *given: play_hands(*given, told, None, True), LINE, thing, None,
                       None, None)
        self.fails(BadHands, ("theirs",), lambda *given: play_hands(*given, told, None, True), LINE, (0,), (9,), None,
                   None)
        self.fails(BadHands, ("colours",), lambda *given: play_hands(*given, told, None, True), LINE, (0,), (1,), (),
                   None)
        for thing in wrong_wishes(4, 2):
            self.fails(BadWish, (thing,), lambda *given: play_hands(*given, told, None, True), LINE, (0,), (1,), (0,),
                       thing)
        for thing in (-1, 61, *NO_NUMBERS):
            # also where the aim holds at the beginning
            self.fails(BadMost, (thing,), lambda *given: play_hands(*given[:5], told, None, given[5]), LINE, (0,),
                       (1,), (0,), ("colour", 0, 0), thing)

    def test_foreign_pours(self):
        kept = Kept(Book((((0, 1, 2, 1), None, (1, 1)),)))
        given = (LINE, (0,), (1,), (0, 1), ("reached", 2))
        wrong = [None, 5, (), (0,), (0, 1, 0), (1, 1), (0, 2), (True, 1), (False, 1), (0, True), "01", {0: 1, 1: 1}]
        wrong += [(0, thing) for thing in NO_NUMBERS]
        for thing in wrong:
            for shape in (lambda pour: pour, lambda pour: list(pour) if isinstance(pour, tuple) else pour):
                with self.assertRaises(ForeignPour) as caught:
                    play_hands(*given, kept, lambda picture: shape(thing))
                self.same(caught.exception.turn, 0)
                turns = iter([[0, 0], shape(thing)])
                with self.assertRaises(ForeignPour) as caught:
                    play_hands(*given, kept, lambda picture: next(turns))
                self.same(caught.exception.turn, 2)
        # a foreign pour in their turn
        first = Forced(2, Book((((0, 1, 2, 1), 2, (0, 1)),)))
        with self.assertRaises(ForeignPour) as caught:
            play_hands(*given, first, lambda picture: (0, 1))
        self.same(caught.exception.turn, 1)

    def test_no_standing(self):
        given = (LINE, (0,), (1,), (0, 1), ("reached", 2))
        with self.assertRaises(NoStanding) as caught:
            play_hands(*given, Forced(1, Book(())), None)
        self.same(caught.exception.standing, (0, 1, 2, 1))
        with self.assertRaises(NoStanding) as caught:
            play_hands(*given, Kept(Book((((0, 1, 2, 1), None, (1, 1)),))), lambda picture: (0, 1))
        self.same(caught.exception.standing, (1, 1, 2, 1))

    def test_great_pictures_are_played(self):
        """There is no bound of patches or couples."""
        picture = Picture([cell % 2 for cell in range(700)], [(cell, cell + 1) for cell in range(699)], [0, 699])

        class Endless(Book):
            def pour_for(self, standing):
                return (0, 1 - standing[0])

        given = (picture, (0,), (1,), (0, 1), ROW, Forced(700, Endless(())))
        played = play_hands(*given, lambda now: (1, 1 - now.colours[-1]), 60)
        self.same((len(played.pours), played.held), (60, False))
        self.same(played.pours[:4], ((0, 1), (1, 0), (0, 0), (1, 1)))
