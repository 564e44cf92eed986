"""What the tests share: strict comparisons, calls with lists and with tuples, and runs told cell by cell."""

import copy
import itertools
import unittest

from spreadhues.pictures import Picture

# the interface of DOC.md, word by word
ATTRIBUTES = {
    "BadColour": ("colour",), "BadColours": ("index",), "BadRow": ("index",), "BadPicture": ("index", "what"),
    "NoCell": ("cell",), "NoMark": ("mark",), "NoDrawing": ("mark",), "BadNaming": ("index",),
    "BadOrder": ("order",), "BadSquares": ("index", "what"), "BadText": ("row",), "TooMany": ("most",),
    "BadMarks": ("marks",), "BadPour": ("what",), "BadScript": ("index", "what"), "BadFirsts": ("index",),
    "BadParting": ("parting",), "BadCourse": ("moment", "what"), "MarkCell": ("mark",), "BadRows": ("index",),
    "BadCount": ("what",), "NotJoined": ("cell",), "BadShown": ("shown",), "BarredMark": ("mark",),
    "NotSeparate": ("cell",), "BadTable": ("index", "what"), "OtherMarks": ("one", "other"),
    "BadBundle": ("index", "what"), "WallUsed": ("wall",), "NoRoom": ("squares",), "BadTold": ("index", "what"),
    "BadFate": ("thing",), "BadFact": ("fact",), "BadMoment": ("moment",), "BadWish": ("wish",),
    "BadChoice": ("what",), "NoStanding": ("standing",), "BadSight": ("index", "what"), "BadScripts": ("index",),
    "NoPicture": ("index",), "BadHands": ("what",), "BadMost": ("most",), "ForeignPour": ("turn",),
    "NoPour": ("index",), "BadTimes": ("times",), "BadEdits": ("index", "what"), "LongScript": ("pours",),
    "BadGoal": ("goal",), "NotHeld": ("goal",), "NothingLeft": ("many",), "StillTrial": ("pours",),
}

# nothing of these is a sequence, and none is a whole number
NO_SEQUENCES = (None, 5, True, "01", b"01", {0, 1}, {0: 1}, range(2), 1.0)
NO_NUMBERS = (None, True, False, "0", 0.0, 1.0, (0,), [0], {})


def as_tuples(thing):
    """Return the thing with tuples for all lists in it."""
    if isinstance(thing, (list, tuple)):
        return tuple(as_tuples(entry) for entry in thing)
    return thing


def as_lists(thing):
    """Return the thing with lists for all tuples in it."""
    if isinstance(thing, (list, tuple)):
        return [as_lists(entry) for entry in thing]
    return thing


def is_same(one, other):
    """Return whether two things are equal and of the same kinds all through: True is not 1, no list a tuple."""
    if isinstance(one, tuple) or isinstance(other, tuple):
        if not isinstance(one, tuple) or not isinstance(other, tuple) or len(one) != len(other):
            return False
        return all(is_same(mine, yours) for mine, yours in zip(one, other))
    return type(one) is type(other) and one == other


class Case(unittest.TestCase):
    def same(self, told, due):
        if not is_same(told, due):
            self.fail(f"told {told!r}, due {due!r}")

    def gives(self, due, action, *given):
        """The call returns just this, with lists and with tuples, and leaves what is passed in as it was."""
        for shape in (as_lists, as_tuples):
            passed = [shape(thing) for thing in given]
            kept = copy.deepcopy(passed)
            self.same(action(*passed), due)
            self.assertTrue(is_same(as_tuples(kept), as_tuples(passed)), "what was passed in has changed")

    def yields(self, due, action, *given):
        self.gives(due, lambda *passed: tuple(action(*passed)), *given)

    def fails(self, error, told, action, *given):
        """The call raises just this error with these attributes, with lists and with tuples."""
        for shape in (as_lists, as_tuples):
            passed = [shape(thing) for thing in given]
            kept = copy.deepcopy(passed)
            with self.assertRaises(error) as caught:
                result = action(*passed)
                if hasattr(result, "__next__"):
                    next(result)
            self.assertIs(type(caught.exception), error)
            shown = tuple(getattr(caught.exception, name) for name in ATTRIBUTES[error.__name__])
            self.same(as_tuples(shown), as_tuples(told))
            self.assertTrue(is_same(as_tuples(kept), as_tuples(passed)), "what was passed in has changed")


# runs told cell by cell, without a line of the package's own

def naive_patch(colours, ties, cell):
    patch = {cell}
    while True:
        more = {b for a, b in [*ties, *((b, a) for a, b in ties)]
                if a in patch and b not in patch and colours[b] == colours[cell]}
        if not more:
            return patch
        patch |= more


def naive_parting(colours, ties, marks):
    parting = []
    for cell in marks:
        patch = naive_patch(colours, ties, cell)
        parting.append(min(k for k, other in enumerate(marks) if other in patch))
    return tuple(parting)


def neighbours(picture, cell):
    """The set of the cells that are tied to the cell."""
    return {a if b == cell else b for a, b in picture.ties if cell in (a, b)}


def naive_wild(picture, barred):
    """The set of the wild cells."""
    taken = set()
    for cell in picture.marks:
        taken |= naive_patch(picture.colours, picture.ties, cell)
    return {cell for cell in range(len(picture)) if cell not in taken and picture.colours[cell] not in barred}


def naive_islands(picture, barred):
    wild = naive_wild(picture, barred)
    flags = [0 if cell in wild else cell + 1 for cell in range(len(picture))]
    ties = [tie for tie in picture.ties if tie[0] in wild and tie[1] in wild]
    islands, gone = [], set()
    for cell in sorted(wild):
        if cell not in gone:
            island = naive_patch(flags, ties, cell)
            gone |= island
            islands.append(tuple(sorted(island)))
    return tuple(islands)


def naive_ways(picture, mark, to, barred):
    """All ways from the one mark to the other: sequences of unlike cells, tied, wild between the patches."""
    starts, ends = [naive_patch(picture.colours, picture.ties, picture.marks[k]) for k in (mark, to)]
    wild = naive_wild(picture, barred)
    begun = [(cell,) for cell in sorted(starts)]
    while begun:
        way = begun.pop()
        if way[-1] in ends:
            yield way
        if len(way) == 1 or way[-1] in wild:
            begun.extend((*way, cell) for cell in sorted(neighbours(picture, way[-1])) if cell not in way)


def naive_strike(row):
    return tuple(colour for at, colour in enumerate(row) if at == 0 or row[at - 1] != colour)


def hides(within, row):
    """Whether the row is hidden in the other one."""
    rest = iter(within)
    return all(colour in rest for colour in row)


def naive_least(rows):
    rows = set(rows)
    least = [row for row in rows if not any(other != row and hides(row, other) for other in rows)]
    return tuple(sorted(least, key=lambda row: (len(row), row)))


def naive_rows(picture, mark, to, barred):
    """The least rows between two marks, from all ways."""
    if naive_parting(picture.colours, picture.ties, [picture.marks[mark], picture.marks[to]]) == (0, 0):
        return ((picture.colours[picture.marks[mark]],),)
    return naive_least(
        naive_strike([picture.colours[cell] for cell in way]) for way in naive_ways(picture, mark, to, barred)
    )


def naive_run(colours, ties, marks, script):
    """Return for each moment (parting, colours of the marks, colours of all cells, cells in marks' patches)."""
    colours = list(colours)
    moments = []
    for pour in [None, *script]:
        if pour is not None:
            for cell in naive_patch(colours, ties, marks[pour[0]]):
                colours[cell] = pour[1]
        inside = set()
        for cell in marks:
            inside |= naive_patch(colours, ties, cell)
        moments.append((
            naive_parting(colours, ties, marks), tuple(colours[cell] for cell in marks), tuple(colours), inside,
        ))
    return moments


def naive_came(moments, cells):
    came = [None] * cells
    for moment, (_, _, _, inside) in enumerate(moments):
        for cell in inside:
            if came[cell] is None:
                came[cell] = moment
    return tuple(came)


def all_ties(cells):
    couples = list(itertools.combinations(range(cells), 2))
    for many in range(len(couples) + 1):
        yield from itertools.combinations(couples, many)


def all_pictures(cells, colours, marks):
    """All pictures of so many cells and colours with these marks."""
    for shown in itertools.product(range(colours), repeat=cells):
        for ties in all_ties(cells):
            yield Picture(shown, ties, marks)


def all_scripts(marks, colours, pours):
    """All scripts of just so many pours."""
    return itertools.product(itertools.product(range(marks), range(colours)), repeat=pours)


def all_rows(colours, most):
    """All rows of at most so many colours."""
    for many in range(most + 1):
        yield from itertools.product(range(colours), repeat=many)


def naive_poured(colours, ties, marks, pour):
    """Return the colours of all cells behind the pour."""
    patch = naive_patch(colours, ties, marks[pour[0]])
    return tuple(pour[1] if cell in patch else own for cell, own in enumerate(colours))


def naive_holds(colours, ties, marks, wish):
    """Whether the wish holds in the colours of all cells."""
    if wish[0] == "all one":
        return len(naive_patch(colours, ties, 0)) == len(colours)
    if wish[0] == "one":
        return marks[wish[2]] in naive_patch(colours, ties, marks[wish[1]])
    if wish[0] == "colour":
        return colours[marks[wish[1]]] == wish[2]
    return any(wish[1] in naive_patch(colours, ties, cell) for cell in marks)


def all_wishes(cells, marks, colours):
    """All wishes for a picture of so many cells, marks and colours."""
    yield ("all one",)
    yield from (("one", *pair) for pair in itertools.permutations(range(marks), 2))
    yield from itertools.product(("colour",), range(marks), range(colours))
    yield from (("reached", cell) for cell in range(cells))


def wrong_wishes(cells, marks):
    """Things that are no wishes for a picture of so many cells and marks."""
    yield from NO_SEQUENCES
    yield from ((), ("all one", 0), ("all",), (0,), (True,), (None,), ((),), ("ALL ONE",), ("one",), ("reached",))
    yield from (("one", 0), ("one", 0, 1, 2), ("colour", 0), ("colour", 0, 1, 2), ("reached", 0, 0), ("one two", 0, 1))
    yield from ((0, 0, 1), (("one",), 0, 1), ("reaches", 0), ("", 0), ("not", ("all one",)), ("came by", 0, 1))
    for thing in (-1, marks, *NO_NUMBERS):
        yield from (("one", thing, 0), ("one", 0, thing), ("colour", thing, 0))
    yield from (("one", mark, mark) for mark in range(marks))
    yield from (("colour", 0, thing) for thing in (-1, 100, *NO_NUMBERS))
    yield from (("reached", thing) for thing in (-1, cells, *NO_NUMBERS))


def chance_picture(chance, cells, colours, marks, density):
    """A picture of so many cells, with each tie with so great a chance."""
    shown = [chance.randrange(colours) for _ in range(cells)]
    ties = [tie for tie in itertools.combinations(range(cells), 2) if chance.random() < density]
    return Picture(shown, ties, chance.sample(range(cells), marks))


def line_of_patches(many, colours, marks):
    """A line of so many patches of two cells each; the colours go round."""
    shown = [spot % colours for spot in range(many) for _ in range(2)]
    return Picture(shown, [(cell, cell + 1) for cell in range(2 * many - 1)], marks)
