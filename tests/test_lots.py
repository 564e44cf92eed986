"""[2.2]: partings of marks into lots."""

import itertools

from spreadhues.errors import BadMarks, BadParting, NoMark
from spreadhues.lots import (
    all_partings, apart_all, check_parting, is_finer, is_parting, joined_lots, lot_of, lots_of,
)
from tests.helpers import NO_NUMBERS, NO_SEQUENCES, Case

NO_PARTINGS = (
    *NO_SEQUENCES, (), (1,), (0, 2), (0, -1), (0, 0, 1), (0, 1, 0, 2), (0, 0, 2, 1), (0, 1, 2, 4), (0,) * 5,
    (-1,), (0, 1, 2, 3, 4), *((0, thing) for thing in NO_NUMBERS), *((thing,) for thing in NO_NUMBERS),
)
WRONG_MARKS = (0, 5, -1, *NO_NUMBERS)


def naive_partings(marks):
    """All tuples that tell for each mark the least mark of its class, by trying all labels."""
    found = set()
    for labels in itertools.product(range(marks), repeat=marks):
        found.add(tuple(labels.index(label) for label in labels))
    return sorted(found)


def lots(parting):
    return {frozenset(k for k, lead in enumerate(parting) if lead == own) for own in parting}


class Partings(Case):
    def test_just_the_partings_are_partings(self):
        for marks in (1, 2, 3, 4):
            due = naive_partings(marks)
            for row in itertools.product(range(-1, marks + 1), repeat=marks):
                self.gives(row in due, is_parting, row)

    def test_other_things_are_none(self):
        for thing in NO_PARTINGS:
            self.gives(False, is_parting, thing)

    def test_check_parting(self):
        self.gives((0, 0, 2), check_parting, 3, [0, 0, 2])
        for thing in (*NO_PARTINGS, (0,), (0, 1), (0, 0, 0, 0)):
            self.fails(BadParting, (thing,), check_parting, 3, thing)
        for thing in WRONG_MARKS:
            self.fails(BadMarks, (thing,), check_parting, thing, None)

    def test_all_partings(self):
        for marks, many in ((1, 1), (2, 2), (3, 5), (4, 15)):
            self.assertEqual(len(naive_partings(marks)), many)
            self.yields(tuple(naive_partings(marks)), all_partings, marks)
        for thing in WRONG_MARKS:
            self.fails(BadMarks, (thing,), all_partings, thing)

    def test_all_partings_is_a_generator(self):
        generator = all_partings(4)
        self.same(next(generator), (0, 0, 0, 0))
        self.same(next(generator), (0, 0, 0, 3))

    def test_apart_all(self):
        self.gives((0,), apart_all, 1)
        self.gives((0, 1, 2, 3), apart_all, 4)
        for thing in WRONG_MARKS:
            self.fails(BadMarks, (thing,), apart_all, thing)


class Lots(Case):
    def test_lots_of(self):
        self.gives(((0,),), lots_of, [0])
        self.gives(((0, 3), (1, 2)), lots_of, [0, 1, 1, 0])
        self.gives(((0,), (1, 3), (2,)), lots_of, [0, 1, 2, 1])
        for marks in (1, 2, 3, 4):
            for parting in naive_partings(marks):
                self.same(lots_of(parting), tuple(sorted(tuple(sorted(lot)) for lot in lots(parting))))

    def test_lot_of(self):
        for marks in (1, 2, 3, 4):
            for parting in naive_partings(marks):
                for mark in range(marks):
                    lot = next(lot for lot in lots(parting) if mark in lot)
                    self.gives(tuple(sorted(lot)), lot_of, parting, mark)

    def test_wrong_things(self):
        for thing in NO_PARTINGS:
            self.fails(BadParting, (thing,), lots_of, thing)
            self.fails(BadParting, (thing,), lot_of, thing, None)
            self.fails(BadParting, (thing,), joined_lots, thing, None)
        for thing in (-1, 2, *NO_NUMBERS):
            self.fails(NoMark, (thing,), lot_of, (0, 0), thing)


class Joining(Case):
    def test_lots_with_a_chosen_mark_are_one(self):
        self.gives((0, 0, 2, 3), joined_lots, [0, 1, 2, 3], [0, 1])
        self.gives((0, 1, 1, 1), joined_lots, [0, 1, 2, 2], [3, 1])
        self.gives((0, 0, 0, 0), joined_lots, [0, 0, 2, 2], [1, 3, 1])
        self.gives((0, 1, 2), joined_lots, [0, 1, 2], [2])

    def test_an_empty_choice_changes_nothing(self):
        for parting in naive_partings(4):
            self.gives(parting, joined_lots, parting, [])

    def test_all_partings_and_choices(self):
        for marks in (1, 2, 3, 4):
            for parting in naive_partings(marks):
                for chosen in itertools.product(range(marks), repeat=2):
                    touched = frozenset().union(*(lot for lot in lots(parting) if set(chosen) & lot))
                    due = {lot for lot in lots(parting) if not lot & touched} | {touched}
                    told = joined_lots(parting, chosen)
                    self.assertTrue(is_parting(told))
                    self.assertEqual(lots(told), due)

    def test_wrong_choices(self):
        for thing in (-1, 2, *NO_NUMBERS):
            self.fails(NoMark, (thing,), joined_lots, (0, 1), [0, thing, 9])
        for thing in NO_SEQUENCES:
            self.fails(NoMark, (thing,), joined_lots, (0, 1), thing)


class Finer(Case):
    def test_each_lot_lies_in_one(self):
        for marks in (1, 2, 3, 4):
            for one in naive_partings(marks):
                for other in naive_partings(marks):
                    due = all(any(lot <= great for great in lots(other)) for lot in lots(one))
                    self.gives(due, is_finer, one, other)

    def test_other_lengths(self):
        self.gives(False, is_finer, (0,), (0, 1))
        self.gives(False, is_finer, (0, 0), (0,))
        self.gives(False, is_finer, (0, 1, 2), (0, 0))

    def test_the_first_wrong_one_is_told(self):
        for thing in NO_PARTINGS:
            self.fails(BadParting, (thing,), is_finer, thing, (7,))
            self.fails(BadParting, (thing,), is_finer, (0, 1), thing)
