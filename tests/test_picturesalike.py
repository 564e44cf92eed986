"""[4.9] to [4.11]: lone scripts, and pictures that show the same colours at their marks."""

import itertools
import random

from spreadhues.errors import BadColours, BadScript, BarredMark, NotSeparate, OtherMarks, TooMany
from spreadhues.islands import is_separate
from spreadhues.pictures import Picture
from spreadhues.picturesalike import PartingScript, is_lone, lone_alike, pictures_alike, unlike_fault
from spreadhues.squares import line_picture
from spreadhues.tables import run_by_table, table_of
from tests.helpers import NO_NUMBERS, NO_SEQUENCES, Case, all_pictures, all_scripts, naive_run
from tests.test_tables import SEPARATE, STAR, naive_moments

ONE = Picture([0, 1], [(0, 1)], [0])
TWO = Picture([0, 1], [(0, 1)], [0, 1])


def naive_lone(one, other, script):
    """By the words of [4.9]: some pour from which on all go into one mark, and ahead of it foreign colours alone."""
    used = {*one.colours, *other.colours}
    return any(
        len({mark for mark, _ in script[at:]}) <= 1 and all(colour not in used for _, colour in script[:at])
        for at in range(len(script) + 1)
    )


def naive_seen(picture, script):
    return tuple(moment[1] for moment in naive_run(picture.colours, picture.ties, picture.marks, script))


class Lone(Case):
    def test_examples(self):
        self.gives(True, is_lone, TWO, TWO, ())
        self.gives(True, is_lone, TWO, TWO, ((1, 0),))
        self.gives(True, is_lone, TWO, TWO, ((1, 0), (1, 5), (1, 1)))
        self.gives(True, is_lone, TWO, TWO, ((0, 5), (1, 6), (0, 7), (1, 0), (1, 1)))
        self.gives(True, is_lone, TWO, TWO, ((0, 5), (1, 0)))
        self.gives(False, is_lone, TWO, TWO, ((0, 1), (1, 0)))
        self.gives(False, is_lone, TWO, TWO, ((0, 1), (1, 5)))
        # the colour of a cell of either picture
        other = Picture([0, 1, 5], [], [0, 1])
        self.gives(False, is_lone, TWO, other, ((0, 5), (1, 0)))
        self.gives(False, is_lone, other, TWO, ((0, 5), (1, 0)))

    def test_all_small_scripts(self):
        for pours in range(4):
            for script in all_scripts(2, 4, pours):
                for one, other in ((TWO, TWO), (TWO, Picture([0, 0, 2], [], [1, 2]))):
                    self.assertIs(is_lone(one, other, script), naive_lone(one, other, script))

    def test_errors(self):
        self.fails(OtherMarks, (1, 2), is_lone, ONE, TWO, None)
        self.fails(OtherMarks, (2, 1), is_lone, TWO, ONE, None)
        for thing in (*NO_SEQUENCES, ((0, 0),) * 13):
            self.fails(BadScript, (0, "many"), is_lone, TWO, TWO, thing)
        self.fails(BadScript, (1, "mark"), is_lone, TWO, TWO, ((0, 0), (2, 0)))
        self.fails(BadScript, (0, "colour"), is_lone, TWO, TWO, ((0, True), (2, 0)))

    def test_moments_of_lone_scripts_are_those_of_the_table(self):
        """All pictures, separate or not."""
        scripts = [
            *all_scripts(1, 3, 3), *(((1, 7), (2, 8), *rest) for rest in all_scripts(1, 3, 3)),
            *(((1, 7), (2, 7), *rest) for rest in all_scripts(1, 2, 3)),
        ]
        for number, picture in enumerate(all_pictures(4, 3, [3, 1, 0])):
            table = table_of(picture)
            for script in scripts[number % 9::9]:
                self.same(run_by_table(table, script), naive_moments(picture, script))

    def test_barred_colours_are_not_poured(self):
        chance = random.Random(49)
        done = 0
        while done < 400:
            cells = chance.randrange(4, 8)
            ties = [tie for tie in itertools.combinations(range(cells), 2) if chance.random() < 0.5]
            picture = Picture([chance.randrange(4) for _ in range(cells)], ties, chance.sample(range(cells), 3))
            if any(picture.colours[cell] == 3 for cell in picture.marks):
                continue
            script = [(chance.randrange(3), 9) for _ in range(chance.randrange(3))]
            script += [(1, chance.randrange(3)) for _ in range(9)]
            self.assertTrue(is_lone(picture, picture, script))
            self.same(run_by_table(table_of(picture, (3,)), script), naive_moments(picture, script))
            done += 1


class Alike(Case):
    def parts(self, one, other, barred=()):
        """The two functions find a script, lone and right, if the tables are unlike."""
        for action in (lone_alike, pictures_alike):
            found = action(one, other, barred)
            self.assertIs(type(found), PartingScript)
            self.assertTrue(naive_lone(one, other, found.script))
            self.assertLessEqual(len(found.script), 12)
            self.assertFalse({colour for _, colour in found.script} & set(barred))
            self.assertNotEqual(naive_seen(one, found.script), naive_seen(other, found.script))
            self.assertIsNone(unlike_fault(one, other, found.script, barred))

    def test_examples(self):
        self.parts(TWO, Picture([0, 2], [(0, 1)], [0, 1]))
        self.parts(Picture([0, 0], [(0, 1)], [0, 1]), Picture([0, 0], [], [0, 1]))
        self.parts(TWO, Picture([0, 1], [], [0, 1]))
        self.parts(Picture([0, 1], [], [0, 1]), TWO)
        self.gives(None, lone_alike, TWO, Picture([1, 0, 7], [(0, 1)], [1, 0]))
        self.gives(None, pictures_alike, TWO, Picture([1, 0, 7], [(0, 1), (1, 2)], [1, 0]))

    def test_the_star(self):
        self.gives(None, lone_alike, STAR, SEPARATE)
        self.fails(NotSeparate, (1,), pictures_alike, STAR, SEPARATE)
        self.fails(NotSeparate, (1,), pictures_alike, SEPARATE, STAR)
        self.gives(None, pictures_alike, SEPARATE, SEPARATE)
        self.gives(None, pictures_alike, STAR, Picture([0, 2, 3], [], [0, 1, 2]), (1,))
        # unlike tables come ahead of islands with three lots
        self.parts(STAR, Picture([0, 1, 2, 4], [(0, 1), (1, 2), (1, 3)], [0, 2, 3]))
        self.parts(STAR, Picture([0, 2, 3], [], [0, 1, 2]))

    def test_the_first_one_that_is_not_separate(self):
        other = Picture([9, 0, 1, 2, 3], [(1, 2), (2, 3), (2, 4)], [1, 3, 4])
        self.fails(NotSeparate, (1,), pictures_alike, STAR, other)
        self.fails(NotSeparate, (2,), pictures_alike, other, STAR)

    def test_all_small_pictures_of_two_marks(self):
        """Pictures of two marks are separate. Each two with one table show the same, each two others are parted."""
        self.gone_through([p for cells in (2, 3) for p in all_pictures(cells, 3, [0, cells - 1])], (), 37)

    def test_all_small_pictures_of_three_marks(self):
        self.gone_through(list(all_pictures(4, 2, [0, 1, 3]))[::3], (), 41)

    def test_barred_colours(self):
        pictures = [p for p in all_pictures(4, 3, [0, 3]) if 2 not in (p.colours[0], p.colours[3])]
        self.gone_through(pictures[::9], (2,), 43)

    def gone_through(self, pictures, barred, step):
        marks = len(pictures[0].marks)
        poured = [colour for colour in range(4) if colour not in barred]
        scripts = [s for s in all_scripts(marks, 4, 3) if all(colour in poured for _, colour in s)][::5]
        groups = {}
        for picture in pictures:
            table = table_of(picture, barred)
            groups.setdefault((table.parting, table.colours, table.rows), []).append(picture)
        for group in groups.values():
            for picture in group[1:]:
                self.assertIsNone(lone_alike(group[0], picture, barred))
            separate = [picture for picture in group if is_separate(picture, barred)]
            for picture in separate[1:]:
                self.assertIsNone(pictures_alike(separate[0], picture, barred))
            shown = {tuple(naive_seen(picture, script) for script in scripts[::7]) for picture in separate}
            self.assertLessEqual(len(shown), 1)
        heads = [group[0] for group in groups.values()]
        for one, other in list(itertools.permutations(heads, 2))[::step]:
            self.parts(one, other, barred)

    def test_8_and_9_wild_patches(self):
        eight, nine = line_picture([98, *range(8), 99]), line_picture([98, *range(9), 99])
        self.gives(None, lone_alike, eight, eight)
        self.gives(None, pictures_alike, eight, eight)
        self.parts(eight, TWO)
        self.parts(eight, line_picture([98, *range(7), 99]))
        self.parts(line_picture([98, *range(7, -1, -1), 99]), eight)
        for action in (lone_alike, pictures_alike):
            self.fails(TooMany, (8,), action, eight, nine)
            self.fails(TooMany, (8,), action, nine, eight)
            self.fails(TooMany, (8,), action, nine, TWO)
            self.gives(None, action, nine, nine, (4,))

    def test_the_longest_script(self):
        """Eight wild patches between two of four marks: two pours aside, nine along the row, one to show it."""
        row = [98, *range(8), 99]
        ties = [(k, k + 1) for k in range(9)]
        marks = [0, 9, 10, 11]
        one = Picture([*row, 50, 51], ties, marks)
        other = Picture([*row, 50, 51], ties[:-1], marks)
        self.parts(one, other)
        self.assertEqual(len(lone_alike(one, other).script), 12)
        self.parts(one, Picture([*row, 50, 51], [*ties, (9, 10), (10, 11), (0, 11)], marks))

    def test_many_colours(self):
        """20 barred colours and as many as there can be in two pictures: two more are found."""
        barred = tuple(range(20))
        one = Picture([*range(20, 32), *barred], [(0, k) for k in range(4, 32)], [0, 1, 2, 3])
        other = Picture([*range(20, 24), *range(40, 48), *barred], [(0, k) for k in range(4, 12)] + [(1, 4)], [0, 1, 2, 3])
        self.parts(one, other, barred)

    def test_errors(self):
        for action in (lone_alike, pictures_alike):
            self.fails(OtherMarks, (1, 2), action, ONE, TWO, None)
            for thing in (*NO_SEQUENCES, (0,) * 21):
                self.fails(BadColours, (0,), action, TWO, TWO, thing)
            for thing in (-1, 100, *NO_NUMBERS):
                self.fails(BadColours, (1,), action, TWO, TWO, (0, thing))
            other = Picture([5, 1], [], [0, 1])
            self.fails(BarredMark, (1,), action, other, TWO, (0, 1))
            self.fails(BarredMark, (0,), action, TWO, other, (5,))
            nine = line_picture([98, *range(9), 99])
            self.fails(BarredMark, (0,), action, nine, TWO, (0,))


class Fault(Case):
    def test_words(self):
        other = Picture([0, 1], [], [0, 1])
        self.gives(None, unlike_fault, TWO, other, ((0, 1), (0, 2)))
        for thing in (*NO_SEQUENCES, ((0, 0),) * 13, ((2, 0),), ((0, 100),), ((0, True),), ((0,),), ((False, 1),)):
            self.gives("script", unlike_fault, TWO, other, thing, (1, 2))
        self.gives("barred", unlike_fault, TWO, other, ((0, 1), (0, 2)), (2,))
        self.gives("barred", unlike_fault, TWO, other, ((0, 3),), (3, 7))
        self.gives("alike", unlike_fault, TWO, other, ((0, 1),))
        self.gives("alike", unlike_fault, TWO, other, (), (5,))
        # a mark's cell may have a barred colour
        self.gives(None, unlike_fault, TWO, Picture([0, 7], [], [0, 1]), (), (0, 1, 7))
        self.gives(None, unlike_fault, TWO, other, ((0, 1), (1, 2)), (0,))

    def test_all_small_scripts(self):
        one, other = Picture([0, 1, 2], [(0, 1), (1, 2)], [0, 2]), Picture([0, 1, 2], [(0, 1), (0, 2)], [0, 2])
        for pours in range(4):
            for script in all_scripts(2, 3, pours):
                unlike = naive_seen(one, script) != naive_seen(other, script)
                self.same(unlike_fault(one, other, script), None if unlike else "alike")

    def test_errors(self):
        self.fails(OtherMarks, (2, 1), unlike_fault, TWO, ONE, None, None)
        for thing in (*NO_SEQUENCES, (0,) * 21):
            self.fails(BadColours, (0,), unlike_fault, TWO, TWO, None, thing)
        self.fails(BadColours, (1,), unlike_fault, TWO, TWO, ((9, 9),), (5, False))
