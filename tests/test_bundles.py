"""[5.1] to [5.5]: bundles, pours into them, their tables, least bundles."""

import itertools
import random

from spreadhues.bundles import (
    Bundle, bundle_moments, bundle_of_table, least_bundle, needless_ways, picture_of_bundle, poured_bundle,
    table_of_bundle,
)
from spreadhues.errors import BadBundle, BadPour, BadScript, TooMany
from spreadhues.islands import is_separate
from spreadhues.pictures import Picture
from spreadhues.running import run_script
from spreadhues.tables import Table, table_of
from tests.helpers import NO_NUMBERS, NO_SEQUENCES, Case, all_pictures, all_rows, all_scripts, naive_run
from tests.test_tables import many_rows


def sides(bundle):
    return bundle.firsts, bundle.ways


def naive_moments(bundle, script):
    """The moments of the picture of separate ways, built anew here."""
    colours, ties = list(bundle.firsts), []
    for one, other, row in bundle.ways:
        last = one
        for colour in row[1:-1]:
            ties.append((last, len(colours)))
            last = len(colours)
            colours.append(colour)
        ties.append((last, other))
    moments = naive_run(colours, ties, range(len(bundle.firsts)), script)
    return tuple(moment[:2] for moment in moments)


def rows_from(start, end, most, colours=3):
    rows = [row for row in all_rows(colours, most) if row and (row[0], row[-1]) == (start, end)]
    return [row for row in rows if all(a != b for a, b in zip(row, row[1:]))]


def small_bundles(firsts, most, ways):
    """All bundles of so many ways, in each order of the ways that is ascending."""
    pairs = itertools.combinations(range(len(firsts)), 2)
    all_ways = [(a, b, row) for a, b in pairs for row in rows_from(firsts[a], firsts[b], most)]
    for chosen in itertools.combinations_with_replacement(all_ways, ways):
        yield Bundle(firsts, chosen)


def chance_bundle(chance, ways):
    marks = chance.randrange(2, 5)
    firsts = [chance.randrange(3) for _ in range(marks)]
    pairs = list(itertools.combinations(range(marks), 2))
    chosen = []
    while len(chosen) < ways:
        one, other = chance.choice(pairs)
        row = [firsts[one], *(chance.randrange(5) for _ in range(chance.randrange(5))), firsts[other]]
        if firsts[one] == firsts[other] and chance.random() < 0.2:
            row = [firsts[one]]
        if all(a != b for a, b in zip(row, row[1:])):
            chosen.append((one, other, row))
    return Bundle(firsts, chosen)


class Bundles(Case):
    def test_attributes(self):
        ways = ((1, 2, (6, 1, 5)), (0, 2, (5,)), (0, 1, (5, 6)), (0, 1, (5, 6)), (0, 2, (5, 1, 5)))
        self.gives(((5, 6, 5), ways), lambda *given: sides(Bundle(*given)), (5, 6, 5), ways)
        self.gives(((5,), ()), lambda *given: sides(Bundle(*given)), (5,), ())

    def test_firsts(self):
        for thing in (*NO_SEQUENCES, (), (0,) * 5, (0, 100), (-1,)):
            self.fails(BadBundle, (0, "firsts"), Bundle, thing, None)
        for thing in NO_NUMBERS:
            self.fails(BadBundle, (0, "firsts"), Bundle, (0, thing), None)

    def test_ways(self):
        for thing in (*NO_SEQUENCES, ((0, 1, (5, 6)),) * 41):
            self.fails(BadBundle, (0, "ways"), Bundle, (5, 6), thing)
        self.assertEqual(len(Bundle((5, 6), [(0, 1, (5, 6))] * 40).ways), 40)

    def test_way(self):
        for thing in (*NO_SEQUENCES, (), (0, 1), (0, 1, (5, 6), 0)):
            self.fails(BadBundle, (1, "way"), Bundle, (5, 6), ((0, 1, (5, 6)), thing, None))

    def test_marks(self):
        for one, other in ((0, 0), (1, 0), (1, 1), (0, 2), (-1, 1), (2, 3)):
            self.fails(BadBundle, (1, "marks"), Bundle, (5, 6), ((0, 1, (5, 6)), (one, other, None), None))
        for thing in NO_NUMBERS:
            self.fails(BadBundle, (0, "marks"), Bundle, (5, 6), ((thing, 1, None),))
            self.fails(BadBundle, (0, "marks"), Bundle, (5, 6), ((0, thing, None),))

    def test_row(self):
        wrong = [*NO_SEQUENCES, (), (5, 5, 6), (5, 6, 6), (5, 1, 1, 6), (5, *range(10, 25), 6), (5, 100, 6)]
        wrong += [(5, thing, 6) for thing in NO_NUMBERS]
        for row in wrong:
            self.fails(BadBundle, (1, "row"), Bundle, (5, 6), ((0, 1, (5, 6)), (0, 1, row), None))

    def test_ends(self):
        for row in ((6, 5), (5,), (6,), (5, 6, 5), (5, 1), (1, 6)):
            self.fails(BadBundle, (1, "ends"), Bundle, (5, 6), ((0, 1, (5, 6)), (0, 1, row), None))

    def test_rows_of_one_and_of_16_colours(self):
        row = (5, *range(10, 24), 5)
        ways = ((0, 1, (5,)), (0, 1, row))
        self.gives(ways, lambda *given: Bundle(*given).ways, (5, 5), ways)

    def test_two_faults(self):
        self.fails(BadBundle, (0, "marks"), Bundle, (5, 6), ((1, 0, (5, 5)), None))
        self.fails(BadBundle, (0, "row"), Bundle, (5, 6), ((0, 1, (6, 6)), (1, 0, (6, 5))))
        self.fails(BadBundle, (0, "ends"), Bundle, (5, 6), ((0, 1, (6, 5)), None))

    def test_a_list_that_changes_later_has_no_effect(self):
        firsts, ways = [5, 6], [[0, 1, [5, 1, 6]]]
        bundle = Bundle(firsts, ways)
        firsts[0], ways[0][2][1] = 9, 9
        ways.append(None)
        self.same(sides(bundle), ((5, 6), ((0, 1, (5, 1, 6)),)))


class Pictures(Case):
    def test_cells_way_by_way(self):
        bundle = Bundle((5, 6, 5), [(1, 2, (6, 1, 2, 5)), (0, 2, (5,)), (0, 1, (5, 6)), (0, 2, (5, 3, 5))])
        picture = picture_of_bundle(bundle)
        self.assertEqual(picture, Picture([5, 6, 5, 1, 2, 3], [(1, 3), (3, 4), (4, 2), (0, 2), (0, 1), (0, 5), (5, 2)], [0, 1, 2]))
        self.assertEqual(picture_of_bundle(Bundle((7,), ())), Picture([7], [], [0]))

    def test_40_ways(self):
        row = (5, *range(10, 24), 6)
        self.assertEqual(len(picture_of_bundle(Bundle((5, 6), [(0, 1, row)] * 40))), 562)


class Pours(Case):
    def poured(self, bundle, pour, firsts, ways):
        self.gives((firsts, ways), lambda given: sides(poured_bundle(bundle, given)), pour)

    def test_words_of_the_point(self):
        bundle = Bundle((5, 6, 5), [(0, 1, (5, 1, 6)), (0, 2, (5,)), (1, 2, (6, 1, 2, 5)), (0, 2, (5, 1, 5))])
        # marks 0 and 2 are one: all their ends get the colour, and an equal neighbour is left out
        self.poured(bundle, (0, 1), (1, 6, 1), ((0, 1, (1, 6)), (0, 2, (1,)), (1, 2, (6, 1, 2, 1)), (0, 2, (1,))))
        self.poured(bundle, (2, 2), (2, 6, 2), ((0, 1, (2, 1, 6)), (0, 2, (2,)), (1, 2, (6, 1, 2)), (0, 2, (2, 1, 2))))
        self.poured(bundle, (1, 1), (5, 1, 5), ((0, 1, (5, 1)), (0, 2, (5,)), (1, 2, (1, 2, 5)), (0, 2, (5, 1, 5))))
        self.poured(bundle, (1, 6), (5, 6, 5), bundle.ways)
        self.poured(Bundle((5, 6), [(0, 1, (5, 6))]), (0, 6), (6, 6), ((0, 1, (6,)),))
        self.poured(Bundle((5,), ()), (0, 6), (6,), ())

    def test_marks_are_joined_by_other_marks(self):
        bundle = Bundle((5, 5, 5, 5), [(0, 2, (5,)), (2, 3, (5,)), (1, 3, (5, 4, 5))])
        self.poured(bundle, (3, 4), (4, 5, 4, 4), ((0, 2, (4,)), (2, 3, (4,)), (1, 3, (5, 4))))
        self.gives((((0, 1, 0, 0), (5,) * 4), ((0, 1, 0, 0), (4, 5, 4, 4)), ((0, 0, 0, 0), (5,) * 4)),
                   bundle_moments, bundle, ((2, 4), (0, 5)))

    def test_all_small_bundles_behind_all_small_scripts(self):
        for firsts in ((0, 0), (0, 1)):
            for ways in range(3):
                for bundle in small_bundles(firsts, 4, ways):
                    for script in list(all_scripts(2, 3, 3))[::7]:
                        self.same(bundle_moments(bundle, script), naive_moments(bundle, script))
        for firsts in ((0, 0, 0), (0, 1, 0)):
            for bundle in list(small_bundles(firsts, 3, 3))[::5]:
                for script in list(all_scripts(3, 3, 2))[::5]:
                    self.same(bundle_moments(bundle, script), naive_moments(bundle, script))

    def test_larger_bundles(self):
        chance = random.Random(53)
        for _ in range(150):
            bundle = chance_bundle(chance, chance.randrange(9))
            script = [(chance.randrange(len(bundle.firsts)), chance.randrange(5)) for _ in range(12)]
            self.same(bundle_moments(bundle, script), naive_moments(bundle, script))

    def test_each_pour_leaves_the_picture_of_a_bundle(self):
        for bundle in small_bundles((0, 1), 4, 2):
            picture = picture_of_bundle(bundle)
            behind = run_script(picture, [(0, 1), (1, 2)]).moments
            self.same(naive_moments(poured_bundle(bundle, (0, 1)), [(1, 2)]), behind[1:])

    def test_40_ways(self):
        bundle = Bundle((90, 91), [(0, 1, row) for row in many_rows(40)])
        script = [(0, 0), (1, 2), (0, 1), (1, 0), (0, 2), (1, 1), (0, 3), (1, 3), (0, 2), (1, 4), (0, 5), (1, 5)]
        self.same(bundle_moments(bundle, script), naive_moments(bundle, script))

    def test_errors(self):
        bundle = Bundle((5, 6), ())
        for thing in (*NO_SEQUENCES, (), (0,), (0, 1, 2)):
            self.fails(BadPour, ("pour",), poured_bundle, bundle, thing)
        for thing in (-1, 2, *NO_NUMBERS):
            self.fails(BadPour, ("mark",), poured_bundle, bundle, (thing, 100))
        for thing in (-1, 100, *NO_NUMBERS):
            self.fails(BadPour, ("colour",), poured_bundle, bundle, (1, thing))
        for thing in (*NO_SEQUENCES, ((0, 0),) * 13):
            self.fails(BadScript, (0, "many"), bundle_moments, bundle, thing)
        self.fails(BadScript, (1, "mark"), bundle_moments, bundle, ((1, 0), (2, 0)))


class TablesOfBundles(Case):
    def test_table_of_bundle(self):
        bundle = Bundle((5, 6, 5, 7), [
            (1, 2, (6, 1, 2, 5)), (0, 2, (5,)), (0, 1, (5, 3, 6)), (0, 1, (5, 3, 1, 6)), (0, 2, (5, 1, 5)), (0, 1, (5, 2, 1, 6)),
        ])
        due = ((0, 1, 0, 3), (5, 6, 5, 7), ((0, 1, ((5, 3, 6), (5, 2, 1, 6))), (0, 3, ()), (1, 3, ())))
        table = table_of_bundle(bundle)
        self.same((table.parting, table.colours, table.rows), due)

    def test_tables_of_pictures_of_bundles(self):
        for firsts in ((0, 0), (0, 1)):
            for ways in range(4):
                for bundle in list(small_bundles(firsts, 4, ways))[::max(1, 5 * ways)]:
                    self.assertEqual(table_of_bundle(bundle), table_of(picture_of_bundle(bundle)))
        chance = random.Random(54)
        for _ in range(300):
            bundle = chance_bundle(chance, chance.randrange(6))
            try:
                due = table_of(picture_of_bundle(bundle))
            except TooMany:
                continue
            self.assertEqual(table_of_bundle(bundle), due)

    def test_no_bound_of_patches(self):
        rows = many_rows(40)
        bundle = Bundle((90, 91), [(0, 1, row) for row in rows])
        self.assertEqual(table_of_bundle(bundle), Table((0, 1), (90, 91), [(0, 1, rows)]))
        self.assertRaises(TooMany, table_of, picture_of_bundle(bundle))

    def test_bundle_of_table(self):
        rows = [(0, 1, [(5, 3, 6), (5, 2, 1, 6)]), (0, 3, []), (1, 3, [(6, 7)])]
        bundle = bundle_of_table(Table((0, 1, 0, 3), (5, 6, 5, 7), rows))
        self.same(sides(bundle), ((5, 6, 5, 7), ((0, 2, (5,)), (0, 1, (5, 3, 6)), (0, 1, (5, 2, 1, 6)), (1, 3, (6, 7)))))
        bundle = bundle_of_table(Table((0, 0, 2, 2), (5, 5, 6, 6), [(0, 2, [(5, 6)])]))
        self.same(sides(bundle), ((5, 5, 6, 6), ((0, 1, (5,)), (2, 3, (6,)), (0, 2, (5, 6)))))

    def test_40_and_41_ways(self):
        for parting, colours, pair in (((0, 1), (90, 91), (0, 1)), ((0, 0, 2), (90, 90, 91), (0, 2))):
            most = 40 - len(parting) + 2
            bundle = bundle_of_table(Table(parting, colours, [(*pair, many_rows(most))]))
            self.assertEqual(len(bundle.ways), 40)
            self.fails(TooMany, (40,), bundle_of_table, Table(parting, colours, [(*pair, many_rows(most + 1))]))

    def test_least_bundle(self):
        bundle = Bundle((5, 6, 5), [(0, 1, (5, 1, 2, 6)), (1, 2, (6, 1, 5)), (0, 2, (5,)), (0, 1, (5, 1, 6)), (0, 2, (5, 6, 5))])
        self.same(sides(least_bundle(bundle)), ((5, 6, 5), ((0, 2, (5,)), (0, 1, (5, 1, 6)))))

    def test_least_bundles_show_the_same(self):
        chance = random.Random(55)
        for _ in range(150):
            bundle = chance_bundle(chance, chance.randrange(12))
            least = least_bundle(bundle)
            table = table_of_bundle(bundle)
            rows = sum(len(item[2]) for item in table.rows)
            lots = len(set(table.parting))
            self.assertEqual(len(least.ways), len(bundle.firsts) - lots + rows)
            self.assertEqual(needless_ways(least), ())
            for _ in range(4):
                script = [(chance.randrange(len(bundle.firsts)), chance.randrange(5)) for _ in range(12)]
                self.same(bundle_moments(least, script), naive_moments(bundle, script))

    def test_no_bundle_of_fewer_ways_shows_the_same(self):
        """All bundles of at most two ways, grouped by what they show: the least bundle has the fewest ways."""
        for firsts in ((0, 0), (0, 1)):
            scripts = list(all_scripts(2, 4, 4))[::3]
            fewest, shown = {}, {}
            for ways in range(3):
                for bundle in small_bundles(firsts, 3, ways):
                    table = table_of_bundle(bundle)
                    shows = tuple(bundle_moments(bundle, script) for script in scripts)
                    fewest.setdefault(shows, (ways, table.rows, table.parting))
                    self.assertEqual(fewest[shows][1:], (table.rows, table.parting))
                    shown.setdefault((table.rows, table.parting), shows)
                    self.assertEqual(shown[(table.rows, table.parting)], shows)
                    self.assertEqual(len(least_bundle(bundle).ways), fewest[shows][0])

    def test_pictures_show_what_their_bundles_show(self):
        for picture in list(all_pictures(4, 2, [2, 1, 0])) + list(all_pictures(4, 3, [0, 3]))[::5]:
            if is_separate(picture):
                bundle = bundle_of_table(table_of(picture))
                for script in list(all_scripts(len(picture.marks), 3, 3))[::29]:
                    self.same(bundle_moments(bundle, script), run_script(picture, script).moments)

    def test_needless_ways(self):
        self.gives((), needless_ways, Bundle((5, 6), ()))
        self.gives((0, 2), needless_ways, Bundle((5, 6), [(0, 1, (5, 1, 6)), (0, 1, (5, 6)), (0, 1, (5, 2, 6))]))
        # each is left out alone: of two equal ways each one is needless
        self.gives((0, 1), needless_ways, Bundle((5, 6), [(0, 1, (5, 6)), (0, 1, (5, 6))]))
        ring = [(0, 1, (5,)), (1, 2, (5,)), (0, 2, (5,))]
        self.gives((0, 1, 2, 3), needless_ways, Bundle((5, 5, 5), [*ring, (0, 1, (5, 1, 5))]))
        self.gives((), needless_ways, Bundle((5, 5, 5), ring[:2]))

    def test_a_way_is_needless_exactly_if_its_lack_is_never_shown(self):
        scripts = list(all_scripts(2, 4, 4))[::3]
        for firsts in ((0, 0), (0, 1)):
            for bundle in small_bundles(firsts, 3, 2):
                needless = []
                for index in range(2):
                    rest = Bundle(firsts, bundle.ways[:index] + bundle.ways[index + 1:])
                    if all(naive_moments(rest, script) == bundle_moments(bundle, script) for script in scripts):
                        needless.append(index)
                self.same(needless_ways(bundle), tuple(needless))

    def test_needless_among_40_ways(self):
        rows = many_rows(39)
        bundle = Bundle((90, 91), [(0, 1, row) for row in (*rows, (*rows[0][:-1], 9, 91))])
        self.gives((39,), needless_ways, bundle)
