"""[6.7]: facts about marks."""

import itertools

from spreadhues.errors import BadFact, BadFirsts, BadMarks, BadParting
from spreadhues.facts import check_fact, fact_holds
from spreadhues.lots import all_partings
from tests.helpers import NO_NUMBERS, NO_SEQUENCES, Case


def all_facts(marks, colours):
    """All facts about so many marks and colours below a number."""
    for one, other in itertools.permutations(range(marks), 2):
        yield ("one", one, other)
        yield ("unlike", one, other)
    for mark, colour in itertools.product(range(marks), range(colours)):
        yield ("colour", mark, colour)


def naive_holds(parting, colours, fact):
    word, mark, other = fact
    return {
        "one": other < len(parting) and parting[mark] == parting[other],
        "unlike": other < len(parting) and colours[mark] != colours[other],
        "colour": colours[mark] == other,
    }[word]


def wrong_facts(marks):
    yield from NO_SEQUENCES
    yield from ((), ("one",), ("one", 0), ("one", 0, 1, 2), ("two", 0, 1), (0, 1), (None, 0, 1), (("one",), 0, 1))
    yield from (("One", 0, 1), (1, 0, 1), ("colour", marks, 5), ("colour", -1, 5), ("colour", 0, 100), ("colour", 0, -1))
    for word in ("one", "unlike"):
        yield from ((word, 0, 0), (word, 0, marks), (word, marks, 0), (word, -1, 0), (word, 0, -1))
        for thing in NO_NUMBERS:
            yield (word, thing, 0)
            yield (word, 0, thing)
    for thing in NO_NUMBERS:
        yield ("colour", thing, 1)
        yield ("colour", 0, thing)


class Check(Case):
    def test_facts(self):
        for marks in range(1, 5):
            for fact in all_facts(marks, 3):
                self.gives(fact, check_fact, marks, fact)
        self.gives(("colour", 0, 99), check_fact, 1, ("colour", 0, 99))

    def test_bad_facts(self):
        for marks in (1, 2, 4):
            for thing in wrong_facts(marks):
                self.fails(BadFact, (thing,), check_fact, marks, thing)
        self.fails(BadFact, (("one", 0, 1),), check_fact, 1, ("one", 0, 1))

    def test_marks(self):
        for thing in (0, 5, *NO_NUMBERS):
            self.fails(BadMarks, (thing,), check_fact, thing, None)


class Holds(Case):
    def test_all_partings_and_colours(self):
        for marks in range(1, 4):
            for parting in all_partings(marks):
                for colours in itertools.product(range(2), repeat=marks):
                    for fact in all_facts(marks, 3):
                        self.gives(naive_holds(parting, colours, fact), fact_holds, parting, colours, fact)

    def test_errors(self):
        for thing in (*NO_SEQUENCES, (), (1,), (0, 2), (0, 1, 2, 3, 4), (0, True), (False, 1)):
            self.fails(BadParting, (thing,), fact_holds, thing, None, None)
        for thing in (*NO_SEQUENCES, (), (0,), (0, 0, 0)):
            self.fails(BadFirsts, (0,), fact_holds, (0, 1), thing, None)
        for thing in (-1, 100, *NO_NUMBERS):
            self.fails(BadFirsts, (1,), fact_holds, (0, 0), (0, thing), None)
        for thing in wrong_facts(2):
            self.fails(BadFact, (thing,), fact_holds, (0, 1), (0, 0), thing)
