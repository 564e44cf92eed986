"""[0.1] to [0.7]: what holds for every module."""

import itertools

from spreadhues.answers import Played
from spreadhues.bench import Bench
from spreadhues.bundles import Bundle
from spreadhues.courses import courses_of
from spreadhues.everydepth import all_every_rows
from spreadhues.fewest import Fewest, NeverSo, Ranks, fewest_scripts
from spreadhues.floors import Measures
from spreadhues.guessing import Fit, NoFit, readings_of
from spreadhues.hands import Book, Forced, Kept
from spreadhues.lots import all_partings
from spreadhues.pictures import Picture
from spreadhues.picturesalike import PartingScript
from spreadhues.reaching import Unreached, WayTo
from spreadhues.rowsone import PartingLine
from spreadhues.running import Run, run_script
from spreadhues.scriptsalike import PartingPicture
from spreadhues.seenrows import fitting_courses
from spreadhues.squares import Squares
from spreadhues.sure import Both, Never, Sure
from spreadhues.tables import Table
from spreadhues.together import Had, NotHad
from tests.helpers import Case, all_pictures, all_scripts, as_tuples, is_same


def objects():
    """Makers of two equal objects of each class with ==, with attributes as alike as can be."""
    yield lambda: Picture([0, 1], [(0, 1)], [0])
    yield lambda: Squares([[0, 1]], [(0, 0)])
    yield lambda: Run(Picture([0], [], [0]), (((0,), (0,)),))
    yield lambda: PartingLine((0, 1))
    yield lambda: WayTo((0, 1))
    yield lambda: Unreached((0, 1))
    yield lambda: Table((0, 1), (0, 1), [(0, 1, [(0, 1)])])
    yield lambda: PartingScript((0, 1))
    yield lambda: Bundle((0, 1), [(0, 1, (0, 1))])
    yield lambda: Had((0, 1))
    yield lambda: NotHad(0, 1)
    yield lambda: PartingPicture((0, 1), 0)
    yield lambda: Sure()
    yield lambda: Never()
    yield lambda: Both((0, 1), (0, 1))
    yield lambda: Fit((0, 1))
    yield lambda: NoFit(0)
    yield lambda: Measures(0, 1, 0, 1)
    yield lambda: Fewest((0, 1), (0, 1))
    yield lambda: NeverSo((0, 1))
    yield lambda: Ranks((0, 1))
    yield lambda: Forced((0, 1), (0, 1))
    yield lambda: Kept((0, 1))
    yield lambda: Book((0, 1))
    yield lambda: Played((0, 1), (0, 1), (0, 1))


def changed():
    """For each class couples of objects of which just one attribute is unlike."""
    yield Table((0, 1), (0, 1), [(0, 1, [(0, 1)])]), Table((0, 1), (0, 1), [(0, 1, [])])
    yield Table((0, 1), (0, 0), [(0, 1, [])]), Table((0, 1), (0, 1), [(0, 1, [])])
    yield Table((0, 0, 2), (0, 0, 0), [(0, 2, [])]), Table((0, 1, 1), (0, 0, 0), [(0, 1, [])])
    yield PartingScript(((0, 1),)), PartingScript(((0, 2),))
    yield Bundle((0, 1), []), Bundle((0, 2), [])
    yield Bundle((0, 1), [(0, 1, (0, 1))]), Bundle((0, 1), [])
    yield Bundle((0, 1), [(0, 1, (0, 1)), (0, 1, (0, 2, 1))]), Bundle((0, 1), [(0, 1, (0, 2, 1)), (0, 1, (0, 1))])
    yield Had(Picture([0], [], [0])), Had(Picture([1], [], [0]))
    yield NotHad(0, 1), NotHad(0, 2)
    yield NotHad(0, 1), NotHad(1, 1)
    yield PartingPicture(Picture([0], [], [0]), 0), PartingPicture(Picture([1], [], [0]), 0)
    yield PartingPicture(Picture([0], [], [0]), 0), PartingPicture(Picture([0], [], [0]), 1)
    yield Both(0, 1), Both(0, 2)
    yield Both(0, 1), Both(2, 1)
    yield Fit(Picture([0], [], [0])), Fit(Picture([1], [], [0]))
    yield NoFit(0), NoFit(1)
    yield Fewest(1, ()), Fewest(2, ())
    yield Fewest(1, ()), Fewest(1, ((0, 1),))
    yield NeverSo(((0,),)), NeverSo(())
    yield Ranks(()), Ranks((((0,), 1),))
    yield Forced(1, Book(())), Forced(2, Book(()))
    yield Forced(1, Book(())), Forced(1, Book((1,)))
    yield Kept(Book(())), Kept(Book((1,)))
    yield Kept(Book(())), Forced(None, Book(()))
    for at in range(4):
        yield Measures(1, 2, 3, 4), Measures(*[0 if k == at else k + 1 for k in range(4)])
    for at in range(3):
        yield Played(1, 2, 3), Played(*[0 if k == at else k + 1 for k in range(3)])


class Equality(Case):
    def test_one_attribute_that_is_unlike(self):
        for one, other in changed():
            self.assertIs(one == other, False)
            self.assertIs(one != other, True)

    def test_objects_of_two_classes_are_never_equal(self):
        for one, other in itertools.permutations(objects(), 2):
            self.assertIs(one() == other(), False)
            self.assertIs(one() != other(), True)

    def test_equal_objects_of_one_class(self):
        for made in objects():
            self.assertIs(made() == made(), True)
            self.assertIs(made() != made(), False)

    def test_a_class_and_its_attributes_are_unlike(self):
        for made in objects():
            for thing in (*vars(made()).values(), vars(made()), None, True, 0):
                self.assertIs(made() == thing, False)
                self.assertIs(made() != thing, True)


class Benches(Case):
    def test_a_bench_alone_has_no_equal(self):
        picture = Picture([0], [], [0])
        bench = Bench(picture)
        for thing in (Bench(picture), picture, None, ()):
            self.assertIs(bench == thing, False)
            self.assertIs(bench != thing, True)
        self.assertIs(bench == bench, True)


class LotsGrow(Case):
    def test_the_colour_of_a_lot_is_that_of_the_last_pour_into_it(self):
        for picture in all_pictures(3, 2, [0, 2]):
            for script in all_scripts(2, 3, 3):
                for moment, (parting, colours) in enumerate(run_script(picture, script)):
                    for mark, cell in enumerate(picture.marks):
                        lot = [other for other, lead in enumerate(parting) if lead == parting[mark]]
                        pours = [colour for poured, colour in script[:moment] if poured in lot]
                        self.assertEqual(colours[mark], pours[-1] if pours else picture.colours[cell])


class Generators(Case):
    def test_items_are_tuples(self):
        for generator in (all_partings(4), all_every_rows(3, 2)):
            for row in generator:
                self.assertTrue(is_same(row, tuple(int(entry) for entry in row)))
        sight = ([[0, 1], [1, 2]], [[0, 1], [1, 1], [1, 2]])
        for generator in (courses_of([0, 1], sight[0]), fitting_courses([0, 1], sight)):
            for course in generator:
                self.assertTrue(is_same(course, as_tuples(course)))

        for generator in (
            readings_of([0, 1], [list(sight), [[], [[0, 1]]]]),
            fewest_scripts(Picture([0, 1, 2], [(0, 1), (1, 2)], [0]), [0], [2, 1], ["all one"]),
        ):
            items = list(generator)
            self.assertTrue(items)
            self.assertTrue(is_same(tuple(items), as_tuples(items)))

    def test_two_generators_go_on_beside_each_other(self):
        one, other = all_every_rows(3, 2), all_every_rows(3, 2)
        self.assertEqual([next(one), next(one)], [next(other), next(other)])
