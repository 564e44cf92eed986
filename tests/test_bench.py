"""[11.7]: the bench."""

import random

from spreadhues.bench import Bench
from spreadhues.edits import edited
from spreadhues.errors import BadEdits, BadPour, BadScript, LongScript, NothingLeft, StillTrial
from spreadhues.pictures import Picture
from spreadhues.running import Run, run_script
from tests.helpers import NO_NUMBERS, NO_SEQUENCES, Case, as_lists, as_tuples, chance_picture, naive_parting, naive_run

PICTURE = Picture([0, 1, 2, 1], [(0, 1), (1, 2)], [0, 2])


class BenchCase(Case):
    def stands(self, bench, first, log):
        """The bench is what its first picture and its log tell."""
        self.assertEqual(bench.first, first)
        self.same(bench.log, tuple(log))
        self.assertEqual(bench.picture, run_script(first, log).picture)
        behind = naive_run(first.colours, first.ties, first.marks, log)[-1][2]
        self.same(bench.picture.colours, behind)

    def refuses(self, error, told, bench, action, *given):
        """The call raises this error and leaves the bench as it was, with lists and with tuples."""
        first, picture, log = bench.first, bench.picture, bench.log
        for shape in (lambda thing: thing, as_lists):
            with self.assertRaises(error) as caught:
                action(*[shape(thing) for thing in given])
            self.same(as_tuples(tuple(vars(caught.exception).values())), as_tuples(told))
            self.assertEqual((bench.first, bench.picture), (first, picture))
            self.same(bench.log, log)

    def parting(self, bench):
        return naive_parting(bench.picture.colours, bench.picture.ties, bench.picture.marks)


class Pours(BenchCase):
    def test_a_new_bench(self):
        bench = Bench(PICTURE)
        self.stands(bench, PICTURE, ())
        self.assertEqual(bench.picture, PICTURE)

    def test_pour_into(self):
        bench = Bench(PICTURE)
        self.same(bench.pour_into(0, 1), (0, 1))
        self.stands(bench, PICTURE, ((0, 1),))
        # an idle pour stands in the log, too
        self.same(bench.pour_into(0, 1), (0, 1))
        self.stands(bench, PICTURE, ((0, 1), (0, 1)))
        self.same(bench.pour_into(mark=0, colour=2), (0, 0))
        self.stands(bench, PICTURE, ((0, 1), (0, 1), (0, 2)))

    def test_wrong_pours(self):
        bench = Bench(PICTURE)
        bench.pour_into(0, 1)
        for thing in (-1, 2, *NO_NUMBERS):
            self.refuses(BadPour, ("mark",), bench, bench.pour_into, thing, 100)
        for thing in (-1, 100, *NO_NUMBERS):
            self.refuses(BadPour, ("colour",), bench, bench.pour_into, 1, thing)

    def test_12_pours(self):
        bench = Bench(PICTURE)
        for colour in range(12):
            bench.pour_into(colour % 2, colour)
        self.stands(bench, PICTURE, [(colour % 2, colour) for colour in range(12)])
        self.refuses(LongScript, (13,), bench, bench.pour_into, 0, 0)
        self.refuses(BadPour, ("colour",), bench, bench.pour_into, 0, True)
        self.refuses(LongScript, (13,), bench, bench.pour_all, ((0, 0),))
        self.refuses(LongScript, (24,), bench, bench.pour_all, ((0, 0),) * 12)
        self.same(bench.pour_all(()), self.parting(bench))

    def test_pour_all(self):
        bench = Bench(PICTURE)
        self.same(bench.pour_all(()), (0, 1))
        self.same(bench.pour_all([[0, 1], [0, 2]]), (0, 0))
        self.stands(bench, PICTURE, ((0, 1), (0, 2)))
        self.same(bench.pour_all(((1, 5),) * 10), (0, 0))
        self.stands(bench, PICTURE, ((0, 1), (0, 2)) + ((1, 5),) * 10)

    def test_wrong_scripts(self):
        bench = Bench(PICTURE)
        bench.pour_all(((0, 1),) * 5)
        for action in (bench.pour_all, bench.trial_of):
            for thing in (*NO_SEQUENCES, ((0, 0),) * 13):
                self.refuses(BadScript, (0, "many"), bench, action, thing)
            self.refuses(BadScript, (8, "pour"), bench, action, (*((0, 0),) * 8, (0,)))
            self.refuses(BadScript, (1, "mark"), bench, action, ((0, 0), (True, 100)))
            self.refuses(BadScript, (1, "colour"), bench, action, ((0, 0), (1, True)))
        self.refuses(LongScript, (13,), bench, bench.pour_all, ((0, 0),) * 8)


class TakingBack(BenchCase):
    def test_what_is_returned(self):
        bench = Bench(PICTURE)
        bench.pour_all(((0, 1), (0, 2), (1, 7), (0, 8)))
        self.same(bench.take_back(), ((0, 8),))
        self.stands(bench, PICTURE, ((0, 1), (0, 2), (1, 7)))
        self.same(bench.take_back(2), ((0, 2), (1, 7)))
        self.stands(bench, PICTURE, ((0, 1),))
        self.same(bench.take_back(many=1), ((0, 1),))
        self.stands(bench, PICTURE, ())

    def test_nothing_left(self):
        bench = Bench(PICTURE)
        for thing in (0, 1, -1, *NO_NUMBERS):
            self.refuses(NothingLeft, (thing,), bench, bench.take_back, thing)
        self.refuses(NothingLeft, (1,), bench, bench.take_back)
        bench.pour_all(((0, 1), (0, 2)))
        for thing in (0, 3, -1, *NO_NUMBERS):
            self.refuses(NothingLeft, (thing,), bench, bench.take_back, thing)


class Changes(BenchCase):
    def test_edits(self):
        bench = Bench(PICTURE)
        bench.pour_all(((0, 1), (1, 3)))
        self.same(bench.change((("paint", 2, 1), ("strike", 1), ("put", 2, 0, 5))), (0, 0))
        first = Picture([0, 1, 1, 1], PICTURE.ties, PICTURE.marks)
        self.stands(bench, first, ((0, 1), (0, 5)))
        self.same(bench.change([]), (0, 0))
        self.same(bench.change([["untie", 0, 1]]), (0, 1))
        self.stands(bench, Picture([0, 1, 1, 1], [(1, 2)], PICTURE.marks), ((0, 1), (0, 5)))

    def test_errors(self):
        bench = Bench(PICTURE)
        bench.pour_all(((0, 1),) * 12)
        for thing in (*NO_SEQUENCES, (("strike", 0),) * 6):
            self.refuses(BadEdits, (0, "many"), bench, bench.change, thing)
        self.refuses(BadEdits, (1, "index"), bench, bench.change, (("paint", 0, 5), ("strike", 12)))
        self.refuses(LongScript, (13,), bench, bench.change, (("paint", 0, 5), ("put", 12, 0, 0)))
        bench.change((("put", 0, 1, 9), ("strike", 0)))
        self.stands(bench, PICTURE, ((1, 9),) + ((0, 1),) * 11)


class Trials(BenchCase):
    def test_what_is_returned(self):
        bench = Bench(PICTURE)
        bench.pour_into(0, 1)
        kept = []

        def action(given):
            self.assertIs(given, bench)
            given.pour_into(0, 2)
            given.pour_all([(1, 7)])
            self.stands(given, PICTURE, ((0, 1), (0, 2), (1, 7)))
            kept.append(given.take_back())
            return kept

        self.assertIs(bench.trying(action), kept)
        self.same(kept[0], ((1, 7),))
        self.stands(bench, PICTURE, ((0, 1),))
        # another one may follow
        self.same(bench.trying(lambda given: None), None)
        self.same(bench.trying(lambda given: given.pour_into(0, 2)), (0, 0))
        self.stands(bench, PICTURE, ((0, 1),))

    def test_actions_that_raise(self):
        bench = Bench(PICTURE)
        bench.pour_into(0, 1)

        class Own(Exception):
            pass

        for error in (Own("own"), KeyError(1), BadPour("mark")):
            def action(given):
                given.pour_into(1, 5)
                raise error

            with self.assertRaises(type(error)) as caught:
                bench.trying(action)
            self.assertIs(caught.exception, error)
            self.stands(bench, PICTURE, ((0, 1),))
        with self.assertRaises(BadPour):
            bench.trying(lambda given: given.pour_into(2, 0))
        with self.assertRaises(TypeError):
            bench.trying(None)
        self.same(bench.trying(lambda given: 5), 5)
        self.same(bench.change(()), (0, 1))

    def test_no_trial_and_no_change_within_a_trial(self):
        bench = Bench(PICTURE)
        bench.pour_into(0, 1)

        def action(given):
            given.pour_into(0, 2)
            self.refuses(StillTrial, (2,), given, lambda: given.trying(lambda other: other.pour_into(0, 5)))
            self.refuses(StillTrial, (2,), given, given.change, (("strike", 0),))
            # ahead of what is wrong with the edits
            self.refuses(StillTrial, (2,), given, given.change, None)
            given.pour_into(0, 3)
            self.refuses(StillTrial, (3,), given, given.change, ())
            return "done"

        self.same(bench.trying(action), "done")
        self.stands(bench, PICTURE, ((0, 1),))
        with self.assertRaises(StillTrial) as caught:
            bench.trying(lambda given: given.trying(None))
        self.same(caught.exception.pours, 1)
        self.stands(bench, PICTURE, ((0, 1),))
        self.same(bench.change((("strike", 0),)), (0, 1))
        self.stands(bench, PICTURE, ())

    def test_only_the_pours_of_the_trial_are_taken_back(self):
        bench = Bench(PICTURE)
        bench.pour_all(((0, 1), (0, 2)))

        def action(given):
            for thing in (0, 1, 2, *NO_NUMBERS):
                self.refuses(NothingLeft, (thing,), given, given.take_back, thing)
            given.pour_all(((1, 5), (1, 6), (0, 7)))
            self.refuses(NothingLeft, (4,), given, given.take_back, 4)
            self.same(given.take_back(2), ((1, 6), (0, 7)))
            self.refuses(NothingLeft, (2,), given, given.take_back, 2)
            self.same(given.take_back(), ((1, 5),))
            self.stands(given, PICTURE, ((0, 1), (0, 2)))

        bench.trying(action)
        self.same(bench.take_back(2), ((0, 1), (0, 2)))

    def test_12_pours_hold_in_a_trial(self):
        bench = Bench(PICTURE)
        bench.pour_all(((0, 1),) * 11)

        def action(given):
            given.pour_into(0, 2)
            self.refuses(LongScript, (13,), given, given.pour_into, 0, 3)
            self.refuses(LongScript, (14,), given, given.pour_all, ((0, 3), (0, 4)))

        bench.trying(action)
        self.stands(bench, PICTURE, ((0, 1),) * 11)

    def test_trial_of(self):
        bench = Bench(PICTURE)
        bench.pour_all(((0, 1),) * 12)
        self.assertEqual(bench.trial_of([[0, 2]] * 12), run_script(bench.picture, ((0, 2),) * 12))
        self.assertIs(type(bench.trial_of(())), Run)
        self.assertEqual(len(bench.trial_of(())), 1)
        self.stands(bench, PICTURE, ((0, 1),) * 12)
        self.assertEqual(bench.trying(lambda given: given.trial_of(((0, 2),)).course), ((0, 1), (0, 0)))


class Chance(BenchCase):
    def test_any_calls(self):
        chance = random.Random(119)
        for _ in range(40):
            first, log = chance_picture(chance, 7, 3, 2, 0.3), ()
            bench = Bench(first)
            for _ in range(25):
                kind = chance.randrange(5)
                script = tuple((chance.randrange(2), chance.randrange(3)) for _ in range(chance.randrange(5)))
                if kind == 0 and len(log) < 12:
                    log += ((0, 1),)
                    self.same(bench.pour_into(0, 1), self.parting(bench))
                elif kind == 1 and len(log) + len(script) <= 12:
                    log += script
                    self.same(bench.pour_all(script), self.parting(bench))
                elif kind == 2 and log:
                    many = chance.randrange(1, len(log) + 1)
                    self.same(bench.take_back(many), log[len(log) - many:])
                    log = log[:len(log) - many]
                elif kind == 3:
                    edits = [("paint", chance.randrange(7), 1), ("tie", 0, chance.randrange(1, 7))]
                    edits += [("strike", chance.randrange(len(log)))] if log else [("put", 0, 1, 2)]
                    first, log = edited(first, log, edits)
                    self.same(bench.change(edits), self.parting(bench))
                else:
                    self.assertEqual(bench.trial_of(script), run_script(bench.picture, script))
                    bench.trying(lambda given: [given.pour_into(1, colour) for colour in range(12 - len(log))])
                self.stands(bench, first, log)

    def test_two_benches_of_one_picture(self):
        one, other = Bench(PICTURE), Bench(PICTURE)
        one.pour_into(0, 1)
        self.stands(other, PICTURE, ())
        self.stands(one, PICTURE, ((0, 1),))
        # a bench is equal to itself alone
        self.assertFalse(Bench(PICTURE) == Bench(PICTURE))
        self.assertTrue(one == one)

    def test_lists_that_change_later_have_no_effect(self):
        bench = Bench(PICTURE)
        script, edits = [[0, 1]], [["paint", 3, 5]]
        bench.pour_all(script)
        bench.change(edits)
        script[0][1], edits[0][2] = 9, 9
        self.stands(bench, Picture([0, 1, 2, 5], PICTURE.ties, PICTURE.marks), ((0, 1),))
