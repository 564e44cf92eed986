"""[7.4] to [7.7]: the fewest pours, ranks, and judged answers."""

import itertools
import random

from spreadhues.errors import BadChoice, BadWish, NoStanding, TooMany
from spreadhues.fewest import (
    Fewest, NeverSo, Ranks, count_fewest, fewest_fault, fewest_pours, fewest_scripts, ranks_of,
)
from spreadhues.patches import distances_of
from spreadhues.pictures import Picture
from spreadhues.standings import closed_standings
from tests.helpers import (
    NO_NUMBERS, Case, all_pictures, all_wishes, chance_picture, line_of_patches, naive_holds, naive_poured,
    wrong_wishes,
)

LINE = Picture([0, 1, 2, 1, 3], [(0, 1), (1, 2), (2, 3), (3, 4)], [0, 4])


def judge(*given):
    return fewest_fault(*given, None)


def listed(*given):
    return list(fewest_scripts(*given))


ACTIONS = (fewest_pours, listed, count_fewest, ranks_of, judge)


def naive_scripts(picture, chosen, colours, wish):
    """All shortest scripts that reach the wish, from all scripts, pour by pour; None if none does."""
    pours = list(itertools.product(sorted(chosen), sorted(colours)))
    begun, seen = [((), picture.colours)], set()
    while begun:
        found = [script for script, shown in begun if naive_holds(shown, picture.ties, picture.marks, wish)]
        if found:
            return tuple(found)
        seen |= {shown for _, shown in begun}
        begun = [
            (script + (pour,), naive_poured(shown, picture.ties, picture.marks, pour))
            for script, shown in begun for pour in pours
        ]
        if all(shown in seen for _, shown in begun):
            return None
    return None


class Errors(Case):
    def test_choice_then_wish_then_patches(self):
        great = line_of_patches(11, 3, [0, 21])
        for action in ACTIONS:
            self.fails(BadChoice, ("marks",), action, great, (2,), (100,), None)
            self.fails(BadChoice, ("marks",), action, great, (True,), (100,), None)
            self.fails(BadChoice, ("colours",), action, great, (0,), (0, 0), None)
            for thing in wrong_wishes(22, 2):
                self.fails(BadWish, (thing,), action, great, (0,), (0,), thing)
            self.fails(TooMany, (10,), action, great, (0,), (0,), ("all one",))
            # also where the wish holds at the beginning
            self.fails(TooMany, (10,), action, great, (0,), (0,), ("colour", 0, 0))


class Examples(Case):
    def test_fewest(self):
        def due(number, script, *given):
            told = fewest_pours(*given)
            self.assertEqual(told, Fewest(number, script))
            self.same(told.script, script)
            self.assertEqual(fewest_pours(given[0], given[1][::-1], list(given[2])[::-1], list(given[3])), told)

        due(4, ((0, 1), (0, 2), (0, 1), (0, 3)), LINE, (0,), (0, 1, 2, 3), ("all one",))
        due(4, ((0, 1), (0, 2), (0, 1), (0, 3)), LINE, (0, 1), (0, 1, 2, 3), ("one", 0, 1))
        due(0, (), LINE, (0,), (5,), ("colour", 1, 3))
        due(1, ((1, 5),), LINE, (0, 1), (5,), ("colour", 1, 5))
        due(2, ((0, 1), (0, 2)), LINE, (0, 1), (1, 2), ("reached", 2))

    def test_never_so(self):
        told = fewest_pours(LINE, (0,), (1, 2), ("one", 0, 1))
        self.assertEqual(told, NeverSo(closed_standings(LINE, (0,), (1, 2))))
        self.yields((), fewest_scripts, LINE, (0,), (1, 2), ("one", 0, 1))
        self.gives(0, count_fewest, LINE, (0,), (1, 2), ("one", 0, 1))
        self.assertTrue(all(rank is None for _, rank in ranks_of(LINE, (0,), (1, 2), ("one", 0, 1))))

    def test_scripts(self):
        self.yields(((),), fewest_scripts, LINE, (0,), (1,), ("colour", 0, 0))
        self.gives(1, count_fewest, LINE, (0,), (1,), ("colour", 0, 0))
        apart = Picture([0, 1, 2], [(0, 1), (1, 2)], [0, 2])
        due = (((0, 1), (0, 2)), ((0, 1), (1, 1)), ((1, 1), (0, 1)), ((1, 1), (1, 0)))
        self.yields(due, fewest_scripts, apart, (1, 0), (2, 0, 1), ("one", 0, 1))
        self.gives(4, count_fewest, apart, (1, 0), (2, 0, 1), ("one", 0, 1))

    def test_two_generators_go_on_beside_each_other(self):
        given = (line_of_patches(10, 4, [0, 19]), (0, 1), (0, 1, 2, 3), ("all one",))
        one, other = fewest_scripts(*given), fewest_scripts(*given)
        self.assertEqual([next(one), next(one)], [next(other), next(other)])

    def test_ranks(self):
        picture = Picture([0, 1], [(0, 1)], [0])
        ranks = ranks_of(picture, (0,), (1, 2), ("all one",))
        self.same(ranks.rows, (((0, 1), 1), ((1, 1), 0), ((2, 1), 1), ((2, 2), 0)))
        self.same(tuple(ranks), ranks.rows)
        for standing, rank in ranks.rows:
            self.same(ranks.rank_of(standing), rank)
        for standing in ((1, 0), (), (0,), (False, 1), (0, True), None, 5, "01", ((0, 1),)):
            with self.assertRaises(NoStanding) as caught:
                ranks.rank_of(standing)
            self.assertIs(caught.exception.standing, standing)

    def test_the_first_row_counts(self):
        ranks = Ranks((((0, 1), 5), ((0, 1), 3), ((2, 2), None)))
        self.same(ranks.rank_of((0, 1)), 5)
        self.same(ranks.rank_of((2, 2)), None)


class Agreement(Case):
    def check(self, picture, chosen, colours, wish):
        given = (picture, chosen, colours, wish)
        due = naive_scripts(*given)
        told = fewest_pours(*given)
        if due is None:
            self.assertEqual(told, NeverSo(closed_standings(picture, chosen, colours)))
            for standing in told.standings:
                self.assertFalse(naive_holds(standing, picture.ties, picture.marks, wish))
        else:
            self.assertEqual(told, Fewest(len(due[0]), due[0]))
            self.assertLessEqual(told.number, 11)
        self.same(tuple(fewest_scripts(*given)), due or ())
        self.same(count_fewest(*given), len(due or ()))
        self.assertIsNone(fewest_fault(*given, told))

    def test_all_small_pictures(self):
        for picture in all_pictures(3, 3, [2, 0]):
            for wish in list(all_wishes(3, 2, 3))[::2]:
                self.check(picture, (0,), (1, 2), wish)
                self.check(picture, (1, 0), (2, 0), wish)

    def test_larger_pictures(self):
        chance = random.Random(76)
        for _ in range(60):
            marks = chance.randrange(1, 4)
            picture = chance_picture(chance, chance.randrange(4, 6), 3, marks, 0.5)
            chosen = chance.sample(range(marks), min(marks, chance.randrange(1, 3)))
            wish = chance.choice(list(all_wishes(len(picture), marks, 3)))
            self.check(picture, chosen, chance.sample(range(3), chance.randrange(1, 4)), wish)

    def test_ranks_follow_their_rule(self):
        chance = random.Random(77)
        for _ in range(60):
            picture = chance_picture(chance, chance.randrange(3, 7), 3, 2, 0.4)
            chosen = ((0,), (1,), (0, 1))[chance.randrange(3)]
            colours = chance.sample(range(3), 2)
            wish = chance.choice(list(all_wishes(len(picture), 2, 3)))
            rows = ranks_of(picture, chosen, colours, wish).rows
            self.same(tuple(standing for standing, _ in rows), closed_standings(picture, chosen, colours))
            ranks = dict(rows)
            for standing, rank in rows:
                behind = [
                    ranks[naive_poured(standing, picture.ties, picture.marks, pour)]
                    for pour in itertools.product(chosen, colours)
                ]
                known = [other for other in behind if other is not None]
                if naive_holds(standing, picture.ties, picture.marks, wish):
                    self.same(rank, 0)
                else:
                    self.same(rank, min(known) + 1 if known else None)
            told = fewest_pours(picture, chosen, colours, wish)
            self.same(ranks[picture.colours], getattr(told, "number", None))


class Ways(Case):
    """[7.7]."""

    def number(self, *given):
        told = fewest_pours(*given)
        return told.number if isinstance(told, Fewest) else None

    def check(self, picture, colours):
        one, other = picture.marks
        due = distances_of(picture, [one])[other]
        for chosen in ((0,), (1,), (0, 1)):
            self.same(self.number(picture, chosen, colours, ("one", 0, 1)), due)
            from_chosen = distances_of(picture, [picture.marks[mark] for mark in chosen])
            from_all = distances_of(picture, picture.marks)
            for cell in range(len(picture)):
                due_cell = 0 if from_all[cell] == 0 else from_chosen[cell]
                self.same(self.number(picture, chosen, colours, ("reached", cell)), due_cell)

    def test_all_small_pictures(self):
        for picture in all_pictures(3, 3, [2, 0]):
            self.check(picture, (0, 1, 2))

    def test_larger_pictures(self):
        chance = random.Random(78)
        for _ in range(15):
            self.check(chance_picture(chance, chance.randrange(4, 10), 4, 2, 0.3), (0, 1, 2, 3))


class Fault(Case):
    def judged(self, word, answer, picture=LINE, chosen=(0, 1), colours=(0, 1, 2, 3), wish=("one", 0, 1)):
        self.gives(word, lambda *given: fewest_fault(*given, answer), picture, chosen, colours, wish)

    def test_answer(self):
        for thing in (None, True, 0, (), "Fewest", Fewest, Ranks(()), (4, ())):
            self.judged("answer", thing)

    def test_fewest(self):
        right = ((0, 1), (0, 2), (0, 1), (0, 3))
        self.judged(None, Fewest(4, right))
        for pour in ((2, 1), (0, 4), (0,), (0, 1, 1), None, 5, (True, 1), (False, 1), (0, True), (0, None), (-1, 1)):
            self.judged("script", Fewest(4, (*right[:3], pour)))
            self.judged("script", Fewest(True, (pour, *right)))
        self.judged("script", Fewest(4, right), chosen=(1,))
        self.judged("script", Fewest(4, right), colours=(1, 2))
        for thing in (None, 5, "script", {}):
            self.judged("script", Fewest(4, thing))
        for number in (3, 5, -4, *NO_NUMBERS):
            self.judged("number", Fewest(number, right))
            self.judged("number", Fewest(number, right[:2]))
        self.judged("wish", Fewest(3, right[:3]))
        self.judged("wish", Fewest(0, ()))
        self.judged("wish", Fewest(5, (*right, (1, 0))), wish=("colour", 1, 3))
        self.judged("fewer", Fewest(5, (*right, (0, 0))))
        self.judged("fewer", Fewest(14, ((1, 3),) * 10 + right))
        self.judged("order", Fewest(4, ((0, 1), (0, 2), (0, 1), (1, 1))))

    def test_a_single_pour(self):
        picture = Picture([1, 3], [(0, 1)], [0, 1])
        self.judged(None, Fewest(1, ((0, 3),)), picture)
        self.judged("order", Fewest(1, ((1, 1),)), picture)
        self.judged(None, Fewest(0, ()), picture, wish=("colour", 0, 1))
        for number in (False, None):
            self.judged("number", Fewest(number, ()), picture, wish=("colour", 0, 1))
        self.judged("number", Fewest(True, ((0, 3),)), picture)
        self.judged("fewer", Fewest(1, ((0, 1),)), picture, wish=("colour", 0, 1))
        self.judged("wish", NeverSo(closed_standings(picture, (0, 1), (0, 1, 2, 3))), picture)

    def test_never_so(self):
        given = {"chosen": (0,), "colours": (1, 2)}
        right = closed_standings(LINE, (0,), (1, 2))
        self.judged(None, NeverSo(right), **given)
        for wrong in (
            right[1:], right[::-1], (*right, right[-1]), (*right, (9,) * 5), (), None, list(right),
            (list(right[0]), *right[1:]), ((False, *right[0][1:]), *right[1:]), (None, *right[1:]),
        ):
            self.judged("standings", NeverSo(wrong), **given)
        self.judged("wish", Fewest(0, ()), **given)
        # the standings are right, but the wish holds in one of them
        self.judged("wish", NeverSo(right), **given, wish=("reached", 1))
        self.judged("wish", NeverSo(right), **given, wish=("colour", 0, 0))
        self.judged("standings", NeverSo(right[1:]), **given, wish=("reached", 1))

    def test_spoilt_answers_of_small_pictures(self):
        for picture in list(all_pictures(3, 2, [0, 2]))[::3]:
            for wish in (("all one",), ("one", 0, 1), ("reached", 1)):
                given = (picture, (0, 1), (0, 1), wish)
                scripts = tuple(fewest_scripts(*given))
                for script in scripts:
                    word = None if script == scripts[0] else "order"
                    self.same(fewest_fault(*given, Fewest(len(script), script)), word)
                    self.same(fewest_fault(*given, Fewest(len(script) + 1, ((0, picture.colours[0]), *script))), "fewer")
                if not scripts:
                    standings = closed_standings(*given[:3])
                    self.same(fewest_fault(*given, NeverSo(standings)), None)
                    self.same(fewest_fault(*given, NeverSo(standings[:-1])), "standings")


class Greatest(Case):
    def test_10_patches_two_marks_four_colours(self):
        chance = random.Random(79)
        for _ in range(12):
            ties = [(chance.randrange(k), k) for k in range(1, 10)]
            more = [tie for tie in itertools.combinations(range(10), 2) if chance.random() < 0.2]
            colours = [chance.randrange(5) for _ in range(10)]
            picture = Picture(colours, ties + more, chance.sample(range(10), 2))
            given = (picture, (0, 1), (0, 1, 2, 3), ("all one",))
            told = fewest_pours(*given)
            self.assertIsNone(fewest_fault(*given, told))
            self.assertEqual(count_fewest(*given), len(list(fewest_scripts(*given))))
            self.assertEqual(ranks_of(*given).rank_of(picture.colours), getattr(told, "number", None))

    def test_700_cells(self):
        picture = Picture([cell // 70 % 3 for cell in range(700)], [(cell, cell + 1) for cell in range(699)], [0, 699])
        self.assertEqual(fewest_pours(picture, (0, 1), (0, 1, 2), ("one", 0, 1)).number, 9)
        self.assertEqual(fewest_pours(picture, (0, 1), (0, 1, 2), ("reached", 350)).number, 4)
