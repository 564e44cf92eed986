"""[8.5]: sights that clash, that are implied by the others, and that are enough."""

import itertools
import random

from spreadhues.asking import possible_rows
from spreadhues.errors import BadFirsts, BadSight, NoPicture, TooMany
from spreadhues.guessing import NoFit, fitting_picture
from spreadhues.implied import clashing_sights, enough_sights, needless_sights
from spreadhues.pictures import Picture
from tests.helpers import NO_NUMBERS, NO_SEQUENCES, Case, all_scripts, all_ties, chance_picture
from tests.test_guessing import APART, EMPTY, SIGHT, chance_sights, naive_sight, shows, sights_with_numbers
from tests.webs import naive_possible, naive_shown

ACTIONS = (clashing_sights, needless_sights, enough_sights)
WRONG = (((0, 1),), ((0, 1), (1, 0)))
# what SIGHT shows of its first pour, and a pour that shows the same joining
HEAD = (((0, 1),), ((0, 1), (1, 1)))
OTHER = (((1, 0), (1, 2)), ((0, 1), (0, 0), (2, 2)))


def index_sets(many):
    for length in range(many + 1):
        yield from itertools.combinations(range(many), length)


def least(sets):
    sets = list(sets)
    return tuple(one for one in sets if not any(set(other) < set(one) for other in sets))


def naive_implies(firsts, sights, sight):
    return naive_possible(firsts, sights, sight[0]) == (sight[1],)


class Errors(Case):
    def test_first_colours_then_sights(self):
        for action in ACTIONS:
            for thing in (*NO_SEQUENCES, (), (0,) * 5):
                self.fails(BadFirsts, (0,), action, thing, None)
            for thing in (-1, 100, *NO_NUMBERS):
                self.fails(BadFirsts, (1,), action, (0, thing), None)
            for thing in (*NO_SEQUENCES, (EMPTY,) * 4):
                self.fails(BadSight, (0, "many"), action, (0, 1), thing)
            self.fails(BadSight, (1, "script"), action, (0, 1), (EMPTY, (None, None)))

    def test_the_bound(self):
        for action in ACTIONS:
            action((0,) * 4, sights_with_numbers((2,)))
            self.fails(TooMany, (60,), action, (0,) * 4, sights_with_numbers((2, 3)))
            # ahead of sights that no picture shows
            self.fails(TooMany, (60,), action, (0, 1), (WRONG, *(((((0, 0),) * 7), ((0, 1),) * 8),) * 2))

    def test_no_picture(self):
        for action in ACTIONS[1:]:
            self.fails(NoPicture, (0,), action, (0, 1), (WRONG,))
            self.fails(NoPicture, (1,), action, (0, 1), (SIGHT, APART))
            self.fails(NoPicture, (2,), action, (0, 1), (EMPTY, SIGHT, WRONG))


class Examples(Case):
    def test_none_and_empty_ones(self):
        self.gives((), clashing_sights, (0, 1), ())
        self.gives((), needless_sights, (0, 1), ())
        self.gives(((),), enough_sights, (0, 1), ())
        self.gives((0, 1), needless_sights, (0, 1), (EMPTY, EMPTY))
        self.gives(((),), enough_sights, (0, 1), (EMPTY, HEAD))

    def test_clashing(self):
        self.gives((), clashing_sights, (0, 1), (SIGHT, HEAD, OTHER))
        self.gives(((0,),), clashing_sights, (0, 1), (WRONG,))
        self.gives(((0, 1),), clashing_sights, (0, 1), (SIGHT, APART))
        self.gives(((0, 2), (1, 2)), clashing_sights, (0, 1), (SIGHT, SIGHT, APART))
        self.gives(((1,), (0, 2)), clashing_sights, (0, 1), (APART, WRONG, SIGHT))
        self.gives(((0,), (1,), (2,)), clashing_sights, (0, 1), (WRONG,) * 3)

    def test_three_that_clash_together_alone(self):
        sights = (
            (((2, 1), (0, 1), (1, 1), (0, 8)), ((0, 0, 0), (0, 0, 1), (1, 0, 1), (1, 1, 1), (8, 8, 8))),
            (((1, 1), (0, 1), (0, 8), (1, 9)), ((0, 0, 0), (0, 1, 0), (1, 1, 0), (8, 1, 0), (8, 9, 0))),
            (((2, 1), (2, 0), (0, 8)), ((0, 0, 0), (0, 0, 1), (0, 0, 0), (8, 0, 8))),
        )
        self.gives(((0, 1, 2),), clashing_sights, (0, 0, 0), sights)
        self.gives(NoFit(2), fitting_picture, (0, 0, 0), sights)
        self.assertFalse(naive_shown((0, 0, 0), sights))
        for two in itertools.combinations(sights, 2):
            self.gives((), clashing_sights, (0, 0, 0), two)
            self.assertTrue(shows(fitting_picture((0, 0, 0), two).picture, (0, 0, 0), two))
        # so two of them tell that the third one is not shown
        for two in itertools.permutations(sights, 2):
            third = next(sight for sight in sights if sight not in two)
            self.assertNotIn(third[1], possible_rows((0, 0, 0), two, third[0]))

    def test_two_of_three_that_clash(self):
        def sight(mark, rows):
            return ((mark, 1),), ((0, 0, 0), rows)

        one, two, three = sight(0, (1, 1, 0)), sight(1, (0, 1, 1)), sight(2, (0, 1, 1))
        self.gives(((0, 1), (0, 2)), clashing_sights, (0, 0, 0), (one, two, three))

    def test_needless_and_enough(self):
        # a script and its beginning
        self.gives((1,), needless_sights, (0, 1), (SIGHT, HEAD))
        self.gives(((0,),), enough_sights, (0, 1), (SIGHT, HEAD))
        # a sight twice
        self.gives((0, 1), needless_sights, (0, 1), (SIGHT, SIGHT))
        self.gives(((0,), (1,)), enough_sights, (0, 1), (SIGHT, SIGHT))
        self.gives((0, 1), needless_sights, (0, 1), (SIGHT, OTHER))
        self.gives(((0,), (1,)), enough_sights, (0, 1), (SIGHT, OTHER))
        self.gives((), needless_sights, (0, 1), (SIGHT,))
        self.gives(((0,),), enough_sights, (0, 1), (SIGHT,))


class Agreement(Case):
    def test_as_the_words_tell(self):
        chance = random.Random(94)
        shown = 0
        for _ in range(90):
            firsts, sights = chance_sights(chance, chance.randrange(2, 4), chance.randrange(2, 4), 2)
            try:
                told = clashing_sights(firsts, sights)
            except TooMany:
                continue
            sets = list(index_sets(len(sights)))
            unseen = [one for one in sets if not naive_shown(firsts, [sights[k] for k in one])]
            self.same(told, least(unseen))
            if unseen:
                self.fails(NoPicture, (fitting_picture(firsts, sights).index,), needless_sights, firsts, sights)
                continue
            shown += 1
            needless = tuple(
                k for k, sight in enumerate(sights)
                if naive_implies(firsts, sights[:k] + sights[k + 1:], sight)
            )
            self.gives(needless, needless_sights, firsts, sights)
            enough = least(
                one for one in sets
                if all(naive_implies(firsts, tuple(sights[k] for k in one), sight) for sight in sights)
            )
            self.gives(enough, enough_sights, firsts, sights)
        self.assertGreater(shown, 20)

    def test_all_small_pictures(self):
        """A sight that is implied is shown by all small pictures that show the others."""
        scripts = list(all_scripts(2, 2, 2))
        for firsts in ((0, 0), (0, 1)):
            pictures = [
                Picture((*firsts, *more), ties, [0, 1])
                for more in itertools.product(range(2), repeat=2) for ties in all_ties(4)
            ]
            shown = {script: [naive_sight(picture, script) for picture in pictures] for script in scripts}
            for one, other in list(itertools.combinations(scripts, 2))[::5]:
                pairs = set(zip(shown[one], shown[other]))
                for left, right in itertools.product(sorted(set(shown[one])), sorted(set(shown[other]))):
                    clashing = clashing_sights(firsts, (left, right))
                    if (left, right) in pairs:
                        self.same(clashing, ())
                    elif clashing:
                        self.same(clashing, ((0, 1),))
                        self.assertEqual(fitting_picture(firsts, (left, right)), NoFit(1))
                        continue
                    needless = needless_sights(firsts, (left, right))
                    if 1 in needless:
                        self.assertTrue(all(pair[1] == right for pair in pairs if pair[0] == left))
                    if 0 in needless:
                        self.assertTrue(all(pair[0] == left for pair in pairs if pair[1] == right))

    def test_12_pours_into_4_marks(self):
        chance = random.Random(95)
        for _ in range(12):
            picture = chance_picture(chance, 9, 2, 4, 0.3)
            firsts = tuple(picture.colours[cell] for cell in picture.marks)
            long = tuple((chance.randrange(4), k % 2) for k in range(12))
            short = tuple((chance.randrange(4), k % 2) for k in range(2))
            # two colours of (6 + 1) * (1 + 1) * (1 + 1) - 1 each
            sights = tuple(naive_sight(picture, script) for script in (short, long, short[::-1]))
            self.gives((), clashing_sights, firsts, sights)
            for index in needless_sights(firsts, sights):
                self.assertTrue(any(index not in one for one in enough_sights(firsts, sights)))
            head = (long[:6], sights[1][1][:7])
            self.assertIn(1, needless_sights(firsts, (sights[1], head)))
