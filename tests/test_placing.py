"""[8.9]: every picture in a whole picture."""

import itertools
import random

from spreadhues.errors import BadScripts, TooMany
from spreadhues.fates import upheld_fates, whole_picture
from spreadhues.pictures import Picture
from spreadhues.placing import placed_cells
from tests.helpers import (
    NO_NUMBERS, NO_SEQUENCES, Case, all_pictures, all_scripts, chance_picture, naive_came, naive_patch, naive_run,
)
from tests.webs import naive_whole

PICTURE = Picture([0, 1, 0, 2, 1, 0], [(0, 1), (1, 2), (3, 4), (0, 5)], [2, 0])


def runs_of(picture, scripts):
    return [naive_run(picture.colours, picture.ties, picture.marks, script) for script in scripts]


class Examples(Case):
    def test_places(self):
        # cells 2 and 0 are the marks, cell 5 lies in the patch of mark 1; cells 3 and 4 never come
        firsts, script = (0, 0), ((0, 1), (1, 1))
        told = ((script, ((0, 1), (0, 1), (0, 0))),)
        self.same(upheld_fates(firsts, told), ((1, (1,)), (1, (2,))))
        self.gives((1, 2, 0, None, None, 1), placed_cells, PICTURE, (script,))
        self.gives((1, None, 0, None, None, 1), placed_cells, PICTURE, ((),))
        self.gives((1, None, 0, None, None, 1), placed_cells, PICTURE, ((), ((0, 5),)))

    def test_cells_in_marks_patches_at_the_beginning(self):
        # the least mark of the lot tells the place, also for the cells of the other marks
        picture = Picture([0, 0, 0, 3], [(0, 1), (1, 2), (2, 3)], [2, 3, 0])
        self.gives((0, 0, 0, 1), placed_cells, picture, ((),))
        self.gives((0, 0, 0, 1), placed_cells, picture, (((0, 3),), ((1, 0),)))

    def test_one_script_alone_and_three(self):
        picture = Picture([0, 1, 2], [(0, 1), (1, 2)], [0])
        scripts = (((0, 1), (0, 2)), ((0, 2), (0, 1)), ())
        self.gives((0, 1, 2), placed_cells, picture, scripts[:1])
        fates = upheld_fates((0,), tuple((script, ((0,),) * (len(script) + 1)) for script in scripts))
        places = placed_cells(picture, scripts)
        self.same(places, (0, 1 + fates.index((1, (1, 2, None))), 1 + fates.index((2, (2, None, None)))))


class Errors(Case):
    def test_scripts(self):
        for thing in (*NO_SEQUENCES, (), ((),) * 4):
            self.fails(BadScripts, (0,), placed_cells, PICTURE, thing)
        wrong = (*NO_SEQUENCES, ((0, 0),) * 13, ((0,),), *(((thing, 0),) for thing in (2, -1, *NO_NUMBERS)),
                 *(((0, thing),) for thing in (100, -1, *NO_NUMBERS)))
        for thing in wrong:
            self.fails(BadScripts, (1,), placed_cells, PICTURE, ((), thing, None))
        self.gives((1, None, 0, None, None, 1), placed_cells, PICTURE, (((0, 9),) * 12,))

    def test_the_bound(self):
        picture = Picture([0] * 4, [], [0, 1, 2, 3])
        scripts = (tuple((mark, 1) for mark in range(4)), ((0, 1), (1, 2), (2, 1)), ((0, 1), (1, 1), (2, 1)))
        self.gives((0, 1, 2, 3), placed_cells, picture, scripts)
        self.fails(TooMany, (60,), placed_cells, picture, (*scripts[:2], (*scripts[2], (0, 3), (0, 4))))
        # idle pours count
        self.gives((0, 1, 2, 3), placed_cells, picture, (((0, 0),) * 6, ((0, 0),) * 7))
        self.fails(TooMany, (60,), placed_cells, picture, (((0, 0),) * 7, ((0, 0),) * 7))


class Agreement(Case):
    def check(self, picture, scripts):
        places = placed_cells(picture, scripts)
        runs = runs_of(picture, scripts)
        came = list(zip(*[naive_came(run, len(picture)) for run in runs]))
        firsts = tuple(picture.colours[cell] for cell in picture.marks)
        told = tuple((script, tuple(moment[0] for moment in run)) for script, run in zip(scripts, runs))
        whole = whole_picture(firsts, told)
        whole_runs = runs_of(whole, scripts)
        whole_came = list(zip(*[naive_came(run, len(whole)) for run in whole_runs]))
        for cell, place in enumerate(places):
            if set(came[cell]) == {None}:
                self.same(place, None)
                continue
            self.same(whole.colours[place], picture.colours[cell])
            self.same(whole_came[place], came[cell])
            if came[cell][0] == 0:
                # the least mark of a lot, in whose patch the cell lies
                self.same(runs[0][0][0][place], place)
                mark_cell = picture.marks[place]
                self.assertIn(cell, naive_patch(picture.colours, picture.ties, mark_cell))
            else:
                self.assertTrue(place >= len(firsts))
            for run, whole_run in zip(runs, whole_runs):
                for moment, whole_moment in zip(run, whole_run):
                    self.same(moment[2][cell], whole_moment[2][place])
        for one, other in picture.ties:
            if places[one] is not None and places[other] is not None and places[one] != places[other]:
                self.assertIn(tuple(sorted((places[one], places[other]))), whole.ties)
        return firsts, told, whole

    def test_all_small_pictures(self):
        for picture in all_pictures(3, 2, [2, 0]):
            for script in all_scripts(2, 2, 2):
                self.check(picture, (script,))
            for scripts in itertools.product((((0, 1),), ((1, 0), (0, 2)), ((1, 1), (1, 0))), repeat=2):
                self.check(picture, scripts)

    def test_larger_pictures(self):
        chance = random.Random(96)
        for _ in range(120):
            marks = chance.randrange(1, 5)
            picture = chance_picture(chance, chance.randrange(marks, 10), 3, marks, 0.3)
            scripts = tuple(
                tuple((chance.randrange(marks), chance.randrange(4)) for _ in range(chance.randrange(6)))
                for _ in range(chance.randrange(1, 4))
            )
            try:
                firsts, told, whole = self.check(picture, scripts)
            except TooMany:
                continue
            self.assertEqual((whole.colours, whole.ties, whole.marks), naive_whole(firsts, told)[0])

    def test_lots_at_the_beginning(self):
        chance = random.Random(97)
        for _ in range(60):
            picture = chance_picture(chance, 7, 2, 4, 0.4)
            parting, _, _, _ = naive_run(picture.colours, picture.ties, picture.marks, ())[0]
            places = placed_cells(picture, (((0, 5),),))
            self.same(tuple(places[cell] for cell in picture.marks), parting)

    def test_a_great_picture(self):
        picture = Picture([cell % 3 for cell in range(700)], [(cell, cell + 1) for cell in range(699)], [0, 699])
        places = placed_cells(picture, (((0, 1), (0, 2), (1, 2), (1, 1)), ((1, 2), (0, 1))))
        self.assertEqual([cell for cell in range(700) if places[cell] is not None], [0, 1, 2, 697, 698, 699])
