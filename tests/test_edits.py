"""[11.1] to [11.3]: edits, and those that are quiet."""

import itertools
import random

from spreadhues.edits import check_edits, edited, quiet_edits
from spreadhues.errors import BadEdits, BadScript, LongScript
from spreadhues.pictures import Picture
from tests.helpers import (
    NO_NUMBERS, NO_SEQUENCES, Case, all_pictures, all_scripts, chance_picture, naive_came, naive_run, neighbours,
)

PICTURE = Picture([0, 1, 2, 1], [(0, 1), (1, 2)], [0, 2])
SCRIPT = ((0, 1), (1, 3), (0, 3))
ALL = (("paint", 3, 7), ("tie", 3, 2), ("untie", 1, 0), ("put", 1, 1, 8), ("strike", 0))


def all_edits(cells, marks, pours, colours):
    """All edits of a picture of so many cells and marks, with a script of so many pours."""
    yield from itertools.product(("paint",), range(cells), range(colours))
    yield from ((word, *pair) for word in ("tie", "untie") for pair in itertools.permutations(range(cells), 2))
    yield from itertools.product(("put",), range(pours + 1), range(marks), range(colours))
    yield from (("strike", index) for index in range(pours))


def naive_edited(picture, script, edits):
    """The colours, the ties and the script behind the edits."""
    colours, ties = list(picture.colours), {frozenset(tie) for tie in picture.ties}
    slots = [[[], [pour]] for pour in script] + [[[], []]]
    for edit in edits:
        if edit[0] == "paint":
            colours[edit[1]] = edit[2]
        elif edit[0] == "tie":
            ties |= {frozenset(edit[1:])}
        elif edit[0] == "untie":
            ties -= {frozenset(edit[1:])}
        elif edit[0] == "put":
            slots[edit[1]][0].append(edit[2:])
        else:
            slots[edit[1]][1] = []
    pours = tuple(tuple(pour) for slot in slots for part in slot for pour in part)
    return tuple(colours), tuple(sorted(tuple(sorted(tie)) for tie in ties)), pours


def sides(told):
    picture, script = told
    return picture.colours, picture.ties, script


class Check(Case):
    def test_what_is_returned(self):
        self.gives((), check_edits, PICTURE, SCRIPT, ())
        self.gives(ALL, check_edits, PICTURE, SCRIPT, ALL)
        for edit in all_edits(4, 2, 3, 2):
            self.gives((edit,), check_edits, PICTURE, SCRIPT, (edit,))
        self.gives((("put", 0, 1, 99),), check_edits, PICTURE, (), (("put", 0, 1, 99),))

    def test_script_then_many(self):
        for action in (check_edits, edited, quiet_edits):
            for thing in (*NO_SEQUENCES, ((0, 0),) * 13):
                self.fails(BadScript, (0, "many"), action, PICTURE, thing, None)
            self.fails(BadScript, (1, "pour"), action, PICTURE, ((0, 0), (0,)), None)
            self.fails(BadScript, (0, "mark"), action, PICTURE, ((True, 100),), None)
            self.fails(BadScript, (0, "colour"), action, PICTURE, ((1, True),), None)
            for thing in (*NO_SEQUENCES, (ALL[0],) * 6, (None,) * 6):
                self.fails(BadEdits, (0, "many"), action, PICTURE, SCRIPT, thing)

    def test_words(self):
        def wrong(word, edit):
            for action in (check_edits, edited, quiet_edits):
                self.fails(BadEdits, (0, word), action, PICTURE, SCRIPT, (edit, None))
                self.fails(BadEdits, (2, word), action, PICTURE, SCRIPT, (*ALL[:2], edit, None))

        for edit in (
            *NO_SEQUENCES, (), ("paint",), ("paint", 0), ("paint", 0, 0, 0), ("tie", 0), ("tie", 0, 1, 2), ("untie", 0),
            ("put", 0, 0), ("put", 0, 0, 0, 0), ("strike",), ("strike", 0, 0), ("draw", 0, 0), (0, "paint", 0),
            (None, 0, 0), (("paint",), 0, 0), ("", 0, 0), ("PAINT", 0, 0), (True, 0),
        ):
            wrong("edit", edit)
        for thing in (-1, 4, *NO_NUMBERS):
            wrong("cell", ("paint", thing, 100))
            for word in ("tie", "untie"):
                wrong("cell", (word, thing, thing))
                wrong("cell", (word, thing, 0))
                wrong("cell", (word, 0, thing))
            wrong("index", ("put", thing, 9, 100))
        for word in ("tie", "untie"):
            for cell in range(4):
                wrong("tie", (word, cell, cell))
        for thing in (-1, 3, *NO_NUMBERS):
            wrong("index", ("strike", thing))
        for thing in (-1, 2, *NO_NUMBERS):
            wrong("mark", ("put", 3, thing, 100))
        for thing in (-1, 100, *NO_NUMBERS):
            wrong("colour", ("put", 3, 1, thing))
            wrong("colour", ("paint", 3, thing))

    def test_indices_of_the_empty_script(self):
        self.fails(BadEdits, (0, "index"), check_edits, PICTURE, (), (("strike", 0),))
        self.fails(BadEdits, (0, "index"), check_edits, PICTURE, (), (("put", 1, 0, 0),))
        self.gives((("put", 12, 0, 0), ("strike", 11)), check_edits, PICTURE, ((0, 0),) * 12,
                   (("put", 12, 0, 0), ("strike", 11)))

    def test_lists_that_change_later_have_no_effect(self):
        edits = [["paint", 0, 1]]
        told = check_edits(PICTURE, SCRIPT, edits)
        edits[0][2] = 5
        self.same(told, (("paint", 0, 1),))


class Edited(Case):
    def check(self, due, edits, script=SCRIPT, picture=PICTURE):
        colours, ties, pours = due
        self.gives((Picture(colours, ties, picture.marks), pours), edited, picture, script, edits)

    def test_none(self):
        self.check((PICTURE.colours, PICTURE.ties, SCRIPT), ())

    def test_all_kinds(self):
        self.check(((0, 1, 2, 7), ((1, 2), (2, 3)), ((1, 8), (1, 3), (0, 3))), ALL)

    def test_one_cell_and_one_tie_twice(self):
        def painted(edits, colours, ties):
            self.check((colours, ties, SCRIPT), edits)

        painted((("paint", 0, 5), ("paint", 0, 6)), (6, 1, 2, 1), PICTURE.ties)
        painted((("tie", 3, 0), ("untie", 0, 3)), PICTURE.colours, PICTURE.ties)
        painted((("untie", 0, 3), ("tie", 3, 0), ("tie", 0, 3)), PICTURE.colours, ((0, 1), (0, 3), (1, 2)))
        painted((("untie", 1, 0), ("tie", 0, 1)), PICTURE.colours, PICTURE.ties)
        # what is so already
        painted((("tie", 1, 0), ("untie", 2, 3)), PICTURE.colours, PICTURE.ties)

    def test_puts_and_strikes(self):
        def poured(edits, script):
            self.check((PICTURE.colours, PICTURE.ties, script), edits)

        poured((("put", 0, 0, 7), ("put", 0, 1, 8)), ((0, 7), (1, 8), *SCRIPT))
        poured((("put", 0, 1, 8), ("put", 0, 0, 7)), ((1, 8), (0, 7), *SCRIPT))
        poured((("put", 3, 1, 8), ("put", 0, 0, 7), ("put", 3, 0, 9)), ((0, 7), *SCRIPT, (1, 8), (0, 9)))
        # a pour that is struck twice is struck, and the indices are those of the script that is passed
        poured((("strike", 0), ("strike", 0)), SCRIPT[1:])
        poured((("strike", 0), ("strike", 1)), SCRIPT[2:])
        poured((("strike", 1), ("put", 1, 0, 7)), (SCRIPT[0], (0, 7), SCRIPT[2]))
        poured((("put", 1, 0, 7), ("strike", 1)), (SCRIPT[0], (0, 7), SCRIPT[2]))
        poured((("strike", 2), ("put", 3, 0, 7), ("put", 2, 0, 8)), (*SCRIPT[:2], (0, 8), (0, 7)))

    def test_12_and_13_pours(self):
        script = ((0, 1),) * 12
        self.check((PICTURE.colours, PICTURE.ties, (*script[:11], (0, 5))), (("strike", 0), ("put", 12, 0, 5)), script)
        self.check((PICTURE.colours, PICTURE.ties, ((0, 5), *script[:11])), (("put", 0, 0, 5),), script[:11])
        for many, edits in ((13, (("put", 0, 0, 5),)), (17, (("put", 12, 1, 5),) * 5),
                            (15, (("strike", 3), *(("put", 3, 1, 5),) * 4))):
            self.fails(LongScript, (many,), edited, PICTURE, script, edits)
            self.gives(edits, check_edits, PICTURE, script, edits)
        self.fails(BadEdits, (1, "edit"), edited, PICTURE, script, (("put", 0, 0, 5), None))
        self.gives((0,), quiet_edits, PICTURE, script[:1] + ((0, 1),) * 11,
                   (("strike", 3), *(("put", 3, 1, 5),) * 4))

    def test_all_small_edits(self):
        chance = random.Random(115)
        edits = list(all_edits(4, 2, 3, 2))
        for one in edits:
            self.check(naive_edited(PICTURE, SCRIPT, (one,)), (one,))
        for _ in range(400):
            chosen = tuple(chance.choice(edits) for _ in range(chance.randrange(2, 6)))
            self.check(naive_edited(PICTURE, SCRIPT, chosen), chosen)

    def test_a_great_picture(self):
        picture = Picture([0] * 700, [(a, b) for a in range(3) for b in range(a + 1, 667)][:1995], [0])
        edits = tuple(("tie", cell, 699) for cell in range(5))
        told = edited(picture, (), edits)[0]
        self.assertEqual(len(told.ties), 2000)
        self.fails(BadEdits, (4, "cell"), edited, picture, (), (*edits[:4], ("tie", 0, 700)))


class Quiet(Case):
    def test_examples(self):
        # cell 3 never comes and is free; cells 4 and 5 never come, but cell 4 is tied to cell 1, which comes
        picture = Picture([0, 1, 2, 1, 5, 5], [(0, 1), (1, 2), (1, 4), (4, 5)], [0, 2])
        script = ((0, 1), (0, 1), (1, 2))
        self.gives((0, 3), quiet_edits, picture, script,
                   (("paint", 3, 1), ("paint", 4, 7), ("paint", 1, 1), ("paint", 5, 1), ("paint", 0, 0)))
        self.gives((0, 1, 2), quiet_edits, picture, script,
                   (("tie", 3, 4), ("untie", 5, 4), ("tie", 5, 3), ("untie", 4, 1), ("tie", 3, 0)))
        self.gives((1, 2), quiet_edits, picture, script,
                   (("strike", 0), ("strike", 1), ("strike", 2), ("put", 0, 0, 0), ("put", 1, 0, 1)))
        self.gives((0, 1, 2), quiet_edits, picture, script, (("strike", 1), ("strike", 1), ("paint", 3, 0), ("put", 0, 0, 0)))
        self.gives((), quiet_edits, picture, script, ())

    def due(self, picture, script, edits):
        moments = naive_run(picture.colours, picture.ties, picture.marks, script)
        came = naive_came(moments, len(picture))
        quiet = []
        for index, edit in enumerate(edits):
            if edit[0] == "paint":
                free = came[edit[1]] is None and all(came[cell] is None for cell in neighbours(picture, edit[1]))
                quiet += [index] if free else []
            elif edit[0] in ("tie", "untie"):
                quiet += [index] if came[edit[1]] is None and came[edit[2]] is None else []
            elif edit[0] == "strike":
                mark, colour = script[edit[1]]
                quiet += [index] if moments[edit[1]][1][mark] == colour else []
        return tuple(quiet), moments, came

    def check(self, picture, script, edits):
        quiet, moments, came = self.due(picture, script, edits)
        self.gives(quiet, quiet_edits, picture, script, edits)
        behind, pours = edited(picture, script, [edits[index] for index in quiet])
        further = naive_run(behind.colours, behind.ties, behind.marks, pours)
        self.assertEqual(further[-1][:2], moments[-1][:2])
        for one, other in zip(came, naive_came(further, len(picture))):
            self.assertEqual(one is None, other is None)

    def test_all_small_pictures(self):
        for picture in list(all_pictures(4, 2, [0, 2]))[::5]:
            for script in list(all_scripts(2, 2, 2))[::3]:
                edits = list(all_edits(4, 2, 2, 2))
                for at in range(0, len(edits), 5):
                    self.check(picture, script, tuple(edits[at:at + 5]))

    def test_larger_pictures(self):
        chance = random.Random(116)
        for _ in range(300):
            marks = chance.randrange(1, 4)
            picture = chance_picture(chance, chance.randrange(marks + 1, 10), 4, marks, 0.2)
            script = tuple((chance.randrange(marks), chance.randrange(2)) for _ in range(chance.randrange(7)))
            edits = list(all_edits(len(picture), marks, len(script), 4))
            self.check(picture, script, tuple(chance.choice(edits) for _ in range(chance.randrange(6))))
