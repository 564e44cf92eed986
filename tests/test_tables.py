"""[4.5] to [4.8]: tables of least rows, and runs reckoned from them."""

import itertools
import random

from spreadhues.errors import BadColours, BadScript, BadTable, BarredMark, NoMark, TooMany
from spreadhues.pictures import Picture
from spreadhues.squares import line_picture
from spreadhues.tables import Table, run_by_table, table_of
from tests.helpers import (
    NO_NUMBERS, NO_SEQUENCES, Case, all_pictures, all_scripts, naive_islands, naive_parting, naive_patch, naive_rows,
    naive_run, neighbours,
)

STAR = Picture([0, 1, 2, 3], [(0, 1), (1, 2), (1, 3)], [0, 2, 3])
SEPARATE = Picture([0, 2, 3, 1, 1, 1], [(0, 3), (3, 1), (0, 4), (4, 2), (1, 5), (5, 2)], [0, 1, 2])
APART = (0, 1, 2)
ROWS = ((0, 1, ((5, 6), (5, 1, 6))), (0, 2, ()), (1, 2, ((6, 2, 7),)))


def many_rows(many):
    """So many unlike struck rows of one length from 90 to 91."""
    inner = [row for row in itertools.product(range(8), repeat=3) if row[0] != row[1] != row[2]]
    return tuple((90, *row, 91) for row in inner[:many])


def naive_separate(picture, barred):
    for island in naive_islands(picture, barred):
        near = set().union(*(neighbours(picture, cell) for cell in island))
        patches = {frozenset(naive_patch(picture.colours, picture.ties, cell)) for cell in picture.marks}
        if sum(bool(patch & near) for patch in patches) > 2:
            return False
    return True


def naive_moments(picture, script):
    return tuple(moment[:2] for moment in naive_run(picture.colours, picture.ties, picture.marks, script))


def sides(table):
    return table.parting, table.colours, table.rows


class Tables(Case):
    def test_attributes(self):
        self.gives((APART, (5, 6, 7), ((0, 1, ((5, 6),)), (0, 2, ()), (1, 2, ((6, 2, 7),)))),
                   lambda *given: sides(Table(*given)), APART, (5, 6, 7), ((0, 1, ((5, 6),)), (0, 2, ()), (1, 2, ((6, 2, 7),))))
        self.gives(((0, 0), (3, 3), ()), lambda *given: sides(Table(*given)), (0, 0), (3, 3), ())
        self.gives(((0,), (3,), ()), lambda *given: sides(Table(*given)), (0,), (3,), ())

    def test_rows_stand_by_length(self):
        rows = ((5, 3, 6), (5, 1, 2, 6), (5, 2, 1, 6), (5, 0, 6))
        due = ((5, 0, 6), (5, 3, 6), (5, 1, 2, 6), (5, 2, 1, 6))
        self.gives(((0, 1, due),), lambda *given: Table(*given).rows, (0, 1), (5, 6), ((0, 1, rows),))

    def test_lots_are_told_by_their_least_marks(self):
        rows = ((0, 2, ((5, 1, 5),)),)
        self.gives(((0, 0, 2, 0), (5, 5, 5, 5), rows), lambda *given: sides(Table(*given)), (0, 0, 2, 0), (5,) * 4, rows)
        self.fails(BadTable, (0, "pair"), Table, (0, 0, 2, 0), (5,) * 4, ((0, 1, ()),))

    def test_parting_and_colours(self):
        for thing in (*NO_SEQUENCES, (), (0, 0, 1, 3, 4), (1,), (0, 2), (0, True), (False, 1), (0, None)):
            self.fails(BadTable, (0, "parting"), Table, thing, None, None)
        for thing in (*NO_SEQUENCES, (), (5,), (5, 5, 5), (5, 6), (100, 100), (-1, -1)):
            self.fails(BadTable, (0, "colours"), Table, (0, 0), thing, None)
        for thing in NO_NUMBERS:
            self.fails(BadTable, (0, "colours"), Table, (0, 1), (5, thing), None)

    def test_pairs(self):
        for thing in (*NO_SEQUENCES, (), ROWS[:2], ROWS + ROWS[:1]):
            self.fails(BadTable, (0, "pairs"), Table, APART, (5, 6, 7), thing)
        self.fails(BadTable, (0, "pairs"), Table, (0,), (5,), ((0, 0, ()),))

    def test_pair(self):
        for thing in (*NO_SEQUENCES, (), (0, 2), (0, 2, (), ()), (2, 0, ()), (0, 1, ()), (0, 2.0, ()), (None, 2, ())):
            self.fails(BadTable, (1, "pair"), Table, APART, (5, 6, 7), ((0, 1, ()), thing, None))
        for item in ((False, 1, ()), (0, True, ()), (0.0, 1, ())):
            self.fails(BadTable, (0, "pair"), Table, (0, 1), (5, 6), (item,))

    def test_row(self):
        wrong = [
            (5,), (), (6,), (5, 6, 5), (6, 5), (5, 5, 6), (5, 1, 1, 6), (5, 1, 6, 6), (5, 100, 6), (5, -1, 6),
            (5, *range(10, 25), 6), *NO_SEQUENCES, *((5, thing, 6) for thing in NO_NUMBERS),
        ]
        for row in wrong:
            self.fails(BadTable, (0, "row"), Table, (0, 1), (5, 6), ((0, 1, ((5, 6), row)),))
        for thing in NO_SEQUENCES:
            self.fails(BadTable, (2, "row"), Table, APART, (5, 6, 7), ((0, 1, ()), (0, 2, ()), (1, 2, thing)))
        # two lots of one colour: a row of two colours is not struck
        self.fails(BadTable, (0, "row"), Table, (0, 1), (5, 5), ((0, 1, ((5, 5),)),))

    def test_16_and_17_colours(self):
        row = (5, *range(10, 24), 6)
        self.gives(((0, 1, (row,)),), lambda *given: Table(*given).rows, (0, 1), (5, 6), ((0, 1, (row,)),))
        self.gives(((0, 1, ((5, 6),)),), lambda *given: Table(*given).rows, (0, 1), (5, 6), ((0, 1, ((5, 6),)),))

    def test_200_and_201_rows(self):
        rows = many_rows(201)
        self.assertEqual(Table((0, 1), (90, 91), [(0, 1, rows[:200])]).rows[0][2], rows[:200])
        self.fails(BadTable, (0, "row"), Table, (0, 1), (90, 91), ((0, 1, rows),))

    def test_hidden(self):
        for rows in (((5, 6), (5, 1, 6)), ((5, 1, 6), (5, 6)), ((5, 1, 6), (5, 1, 6)), ((5, 1, 2, 1, 6), (5, 2, 6))):
            self.fails(BadTable, (0, "hidden"), Table, (0, 1), (5, 6), ((0, 1, rows),))
        # rows of unlike couples may be hidden in one another
        rows = ((0, 1, ((5, 5, 5)[:1] + (1, 5),)), (0, 2, ((5, 1, 5),)), (1, 2, ()))
        self.gives(rows, lambda *given: Table(*given).rows, APART, (5, 5, 5), rows)

    def test_two_faults(self):
        self.fails(BadTable, (0, "row"), Table, APART, (5, 6, 7), ((0, 1, ((5,), (5, 6), (5, 6))), None, None))
        self.fails(BadTable, (0, "hidden"), Table, APART, (5, 6, 7), (ROWS[0], None, None))
        self.fails(BadTable, (1, "pair"), Table, APART, (5, 6, 7), ((0, 1, ()), (1, 2, None), (1, 2, ((6,),))))
        self.fails(BadTable, (0, "pair"), Table, APART, (5, 6, 7), ((1, 0, None), None, None))

    def test_a_list_that_changes_later_has_no_effect(self):
        parting, colours, rows = [0, 1], [5, 6], [[0, 1, [[5, 6]]]]
        table = Table(parting, colours, rows)
        parting[1], colours[0], rows[0][2][0][1] = 0, 9, 9
        self.same(sides(table), ((0, 1), (5, 6), ((0, 1, ((5, 6),)),)))

    def test_between(self):
        table = Table((0, 1, 0, 3), (5, 6, 5, 7), [
            (0, 1, [(5, 1, 2, 6), (5, 2, 1, 6), (5, 3, 6)]), (0, 3, ()), (1, 3, [(6, 1, 7), (6, 7, 1, 3, 7)][:1]),
        ])
        self.gives(((5, 3, 6), (5, 1, 2, 6), (5, 2, 1, 6)), table.between, 0, 1)
        self.gives(((5, 3, 6), (5, 1, 2, 6), (5, 2, 1, 6)), table.between, 2, 1)
        self.gives(((6, 3, 5), (6, 1, 2, 5), (6, 2, 1, 5)), table.between, 1, 2)
        self.gives(((7, 1, 6),), table.between, 3, 1)
        self.gives((), table.between, 0, 3)
        self.gives(((5,),), table.between, 0, 2)
        self.gives(((7,),), table.between, 3, 3)
        # read backwards, the other one is the lesser row
        table = Table((0, 1), (5, 6), [(0, 1, [(5, 1, 3, 6), (5, 2, 0, 6)])])
        self.gives(((6, 0, 2, 5), (6, 3, 1, 5)), table.between, 1, 0)
        for thing in (-1, 2, *NO_NUMBERS):
            self.fails(NoMark, (thing,), table.between, thing, 5)
            self.fails(NoMark, (thing,), table.between, 1, thing)


class TableOf(Case):
    def test_the_star(self):
        due = (APART, (0, 2, 3), ((0, 1, ((0, 1, 2),)), (0, 2, ((0, 1, 3),)), (1, 2, ((2, 1, 3),))))
        self.gives(due, lambda *given: sides(table_of(*given)), STAR)
        self.gives(due, lambda *given: sides(table_of(*given)), SEPARATE)
        self.assertEqual(table_of(STAR), table_of(SEPARATE))
        self.gives((APART, (0, 2, 3), ((0, 1, ()), (0, 2, ()), (1, 2, ()))), lambda *given: sides(table_of(*given)), STAR, (1,))

    def test_all_small_pictures(self):
        for marks in ([0], [3, 0], [2, 1, 0], [0, 1, 2, 3]):
            for picture in all_pictures(4, 2, marks):
                parting = naive_parting(picture.colours, picture.ties, marks)
                leads = sorted(set(parting))
                rows = tuple((a, b, naive_rows(picture, a, b, ())) for a, b in itertools.combinations(leads, 2))
                self.same(sides(table_of(picture)), (parting, tuple(picture.colours[cell] for cell in marks), rows))

    def test_errors(self):
        for thing in (*NO_SEQUENCES, (0,) * 21):
            self.fails(BadColours, (0,), table_of, STAR, thing)
        self.fails(BadColours, (1,), table_of, STAR, (0, True))
        self.fails(BarredMark, (1,), table_of, STAR, (3, 2))
        long = line_picture([98, *range(15), 99])
        self.fails(TooMany, (14,), table_of, long)
        self.fails(BarredMark, (0,), table_of, long, (98,))
        self.gives(((0, 1), (98, 99), ((0, 1, ()),)), lambda *given: sides(table_of(*given)), long, (3,))
        self.fails(TooMany, (14,), table_of, Picture(long.colours, long.ties, [0]))


class RunByTable(Case):
    def test_the_star_by_the_words_of_the_point(self):
        script = ((2, 1), (2, 3), (0, 1), (0, 2))
        self.same(naive_moments(STAR, script)[-1][0], (0, 1, 2))
        self.same(naive_moments(SEPARATE, script)[-1][0], (0, 0, 2))
        self.gives(naive_moments(SEPARATE, script), run_by_table, table_of(STAR), script)
        longer = (*script, (1, 5))
        self.same(naive_moments(STAR, longer)[-1][1], (2, 5, 3))
        self.same(naive_moments(SEPARATE, longer)[-1][1], (5, 5, 3))
        self.gives(naive_moments(SEPARATE, longer), run_by_table, table_of(SEPARATE), longer)

    def test_a_row_eaten_from_both_ends(self):
        table = Table((0, 1), (0, 9), [(0, 1, [(0, 1, 2, 3, 9)])])
        apart, one = (0, 1), (0, 0)
        self.gives(((apart, (0, 9)), (apart, (1, 9)), (apart, (1, 3)), (apart, (2, 3)), (one, (3, 3))),
                   run_by_table, table, ((0, 1), (1, 3), (0, 2), (0, 3)))
        # the poured colour stands further in, so nothing is eaten
        self.gives(((apart, (0, 9)), (apart, (2, 9)), (apart, (9, 9))), run_by_table, table, ((0, 2), (0, 9)))
        self.gives((((0, 0), (4, 4)), ((0, 0), (7, 7))), run_by_table, Table((0, 0), (4, 4), ()), ((1, 7),))

    def test_all_small_separate_pictures(self):
        for marks, pours in (([0], 3), ([3, 1], 3), ([2, 1, 0], 2)):
            for picture in all_pictures(4, 2, marks):
                if naive_separate(picture, ()):
                    self.check(picture, (), list(all_scripts(len(marks), 3, pours))[::7])

    def check(self, picture, barred, scripts):
        table = table_of(picture, barred)
        for script in scripts:
            self.same(run_by_table(table, script), naive_moments(picture, script))

    def test_larger_separate_pictures(self):
        chance = random.Random(48)
        done = 0
        while done < 400:
            cells = chance.randrange(4, 9)
            ties = [tie for tie in itertools.combinations(range(cells), 2) if chance.random() < 0.35]
            picture = Picture([chance.randrange(4) for _ in range(cells)], ties, chance.sample(range(cells), 4))
            barred = chance.choice([(), (3,), (2, 3)])
            if any(picture.colours[cell] in barred for cell in picture.marks) or not naive_separate(picture, barred):
                continue
            poured = [colour for colour in range(5) if colour not in barred]
            script = [(chance.randrange(4), chance.choice(poured)) for _ in range(12)]
            self.check(picture, barred, [script])
            done += 1

    def test_errors(self):
        table = table_of(STAR)
        for thing in (*NO_SEQUENCES, ((0, 0),) * 13):
            self.fails(BadScript, (0, "many"), run_by_table, table, thing)
        self.fails(BadScript, (1, "mark"), run_by_table, table, ((0, 0), (3, 100)))
        self.fails(BadScript, (0, "colour"), run_by_table, table, ((2, True), (3, 100)))
        self.fails(BadScript, (0, "pour"), run_by_table, table, ((2,), None))
