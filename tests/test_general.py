"""[0.1] to [0.7]: what holds for every module."""

import itertools

from spreadhues.everydepth import all_every_rows
from spreadhues.lots import all_partings
from spreadhues.pictures import Picture
from spreadhues.reaching import Unreached, WayTo
from spreadhues.rowsone import PartingLine
from spreadhues.running import Run, run_script
from spreadhues.squares import Squares
from tests.helpers import Case, all_pictures, all_scripts, is_same


def objects():
    """Makers of two equal objects of each class with ==, with attributes as alike as can be."""
    yield lambda: Picture([0, 1], [(0, 1)], [0])
    yield lambda: Squares([[0, 1]], [(0, 0)])
    yield lambda: Run(Picture([0], [], [0]), (((0,), (0,)),))
    yield lambda: PartingLine((0, 1))
    yield lambda: WayTo((0, 1))
    yield lambda: Unreached((0, 1))


class Equality(Case):
    def test_objects_of_two_classes_are_never_equal(self):
        for one, other in itertools.permutations(objects(), 2):
            self.assertIs(one() == other(), False)
            self.assertIs(one() != other(), True)

    def test_equal_objects_of_one_class(self):
        for made in objects():
            self.assertIs(made() == made(), True)
            self.assertIs(made() != made(), False)

    def test_a_class_and_its_attributes_are_unlike(self):
        for made in objects():
            for thing in (*vars(made()).values(), vars(made()), None, True, 0):
                self.assertIs(made() == thing, False)
                self.assertIs(made() != thing, True)


class LotsGrow(Case):
    def test_the_colour_of_a_lot_is_that_of_the_last_pour_into_it(self):
        for picture in all_pictures(3, 2, [0, 2]):
            for script in all_scripts(2, 3, 3):
                for moment, (parting, colours) in enumerate(run_script(picture, script)):
                    for mark, cell in enumerate(picture.marks):
                        lot = [other for other, lead in enumerate(parting) if lead == parting[mark]]
                        pours = [colour for poured, colour in script[:moment] if poured in lot]
                        self.assertEqual(colours[mark], pours[-1] if pours else picture.colours[cell])


class Generators(Case):
    def test_items_are_tuples(self):
        for generator in (all_partings(4), all_every_rows(3, 2)):
            for row in generator:
                self.assertTrue(is_same(row, tuple(int(entry) for entry in row)))

    def test_two_generators_go_on_beside_each_other(self):
        one, other = all_every_rows(3, 2), all_every_rows(3, 2)
        self.assertEqual([next(one), next(one)], [next(other), next(other)])
