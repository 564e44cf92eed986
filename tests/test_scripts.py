"""[2.1]: numbers of marks, pours, scripts and first colours."""

from spreadhues.errors import BadFirsts, BadMarks, BadPour, BadScript
from spreadhues.scripts import MOST_MARKS, MOST_POURS, check_firsts, check_marks, check_pour, check_script
from tests.helpers import NO_NUMBERS, NO_SEQUENCES, Case

WRONG_MARKS = (0, 5, -1, *NO_NUMBERS)


def wrong_pours(marks):
    """Wrong pours into one of so many marks, each with its word."""
    for thing in (*NO_SEQUENCES, (), (0,), (0, 1, 2), "01", (True,)):
        yield thing, "pour"
    for thing in (-1, marks, *NO_NUMBERS):
        yield (thing, 0), "mark"
        yield (thing, None), "mark"
    for thing in (-1, 100, *NO_NUMBERS):
        yield (marks - 1, thing), "colour"


class Marks(Case):
    def test_constants(self):
        self.same((MOST_POURS, MOST_MARKS), (12, 4))

    def test_one_to_four(self):
        for marks in (1, 2, 3, 4):
            self.gives(marks, check_marks, marks)
        for thing in WRONG_MARKS:
            self.fails(BadMarks, (thing,), check_marks, thing)


class Pours(Case):
    def test_pours(self):
        self.gives((0, 0), check_pour, 1, [0, 0])
        self.gives((3, 99), check_pour, 4, (3, 99))

    def test_wrong_marks_come_first(self):
        for thing in WRONG_MARKS:
            self.fails(BadMarks, (thing,), check_pour, thing, None)

    def test_words(self):
        for marks in (1, 2, 4):
            for pour, word in wrong_pours(marks):
                self.fails(BadPour, (word,), check_pour, marks, pour)


class Scripts(Case):
    def test_scripts(self):
        self.gives((), check_script, 1, [])
        self.gives(((1, 5), (0, 5), (1, 5)), check_script, 2, [[1, 5], (0, 5), [1, 5]])

    def test_twelve_pours_and_thirteen(self):
        self.gives(((0, 1),) * 12, check_script, 1, [(0, 1)] * 12)
        self.fails(BadScript, (0, "many"), check_script, 1, [(0, 1)] * 13)
        self.fails(BadScript, (0, "many"), check_script, 1, [None] * 13)

    def test_wrong_marks_come_first(self):
        for thing in WRONG_MARKS:
            self.fails(BadMarks, (thing,), check_script, thing, None)

    def test_no_sequence(self):
        for thing in NO_SEQUENCES:
            self.fails(BadScript, (0, "many"), check_script, 2, thing)

    def test_first_wrong_pour_with_its_word(self):
        for marks in (1, 3):
            for pour, word in wrong_pours(marks):
                self.fails(BadScript, (1, word), check_script, marks, [(0, 1), pour, (9, 9), None])
                self.fails(BadScript, (11, word), check_script, marks, [(0, 1)] * 11 + [pour])

    def test_a_list_that_changes_later_has_no_effect(self):
        script = [[0, 1], [0, 2]]
        told = check_script(1, script)
        script[0][1] = 9
        script.append([0, 3])
        self.same(told, ((0, 1), (0, 2)))


class Firsts(Case):
    def test_one_colour_for_each_mark(self):
        self.gives((7,), check_firsts, 1, [7])
        self.gives((0, 99, 0, 5), check_firsts, 4, [0, 99, 0, 5])

    def test_none_lets_one_to_four_marks_be(self):
        for marks in (1, 2, 3, 4):
            self.gives((8,) * marks, check_firsts, None, [8] * marks)
        for marks in (0, 5):
            self.fails(BadFirsts, (0,), check_firsts, None, [8] * marks)

    def test_wrong_marks_come_first(self):
        for thing in WRONG_MARKS:
            if thing is not None:
                self.fails(BadMarks, (thing,), check_firsts, thing, None)

    def test_another_length(self):
        for marks, firsts in ((1, []), (1, [0, 0]), (2, [0]), (4, [0] * 5), (2, [None] * 3)):
            self.fails(BadFirsts, (0,), check_firsts, marks, firsts)

    def test_no_sequence(self):
        for thing in NO_SEQUENCES:
            self.fails(BadFirsts, (0,), check_firsts, 2, thing)
            self.fails(BadFirsts, (0,), check_firsts, None, thing)

    def test_first_wrong_colour(self):
        for thing in (-1, 100, *NO_NUMBERS):
            for marks in (3, None):
                self.fails(BadFirsts, (1,), check_firsts, marks, [0, thing, thing])
