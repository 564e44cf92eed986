"""Rows of pours into one mark that make a picture one patch: floor, greedy row and fewest row."""

from spreadhues.boards import Board
from spreadhues.patches import numbers_of
from spreadhues.pictures import check_mark
from spreadhues.reaching import depth_of, first_moments
from spreadhues.standings import MOST_PATCHES, check_patches


class Measures:
    """Four lengths: the floor, those of the fewest and of the greedy row, and the one that always does."""

    def __init__(self, floor, fewest, greedy, always):
        self.floor = floor
        self.fewest = fewest
        self.greedy = greedy
        self.always = always

    @property
    def loss(self):
        return self.greedy - self.fewest

    def __eq__(self, other):
        return (
            isinstance(other, Measures)
            and self.floor == other.floor
            and self.fewest == other.fewest
            and self.greedy == other.greedy
            and self.always == other.always
        )


def floor_of(picture, mark):
    """Return a number of pours into the mark below which no row makes the picture one patch."""
    depth = depth_of(picture, mark)
    numbers = numbers_of(picture)
    own = numbers[picture.marks[mark]]
    return max(depth, len({colour for colour, number in zip(picture.colours, numbers) if number != own}))


def greedy_row(picture, mark):
    """Return the row each pour of which takes most cells, the least colour of several such ones."""
    check_mark(len(picture.marks), mark)
    board = Board(picture, numbers_of(picture))
    sizes = [0 for spot in board.corners]
    for spot in board.numbers:
        sizes[spot] += 1
    row = []
    inside = {}
    border = {}
    taken = [board.marks[mark]]
    while taken:
        for spot in taken:
            inside[spot] = True
        for spot in taken:
            for other in board.near[spot]:
                if other not in inside:
                    border.setdefault(board.start[other], {})[other] = True
        taken = []
        if border:
            worths = [(-sum([sizes[spot] for spot in spots]), colour) for colour, spots in border.items()]
            row.append(min(worths)[1])
            taken = list(border.pop(row[-1]))
    return tuple(row)


def joining_head(picture, mark, row):
    """Return how many first pours of the row make the picture one patch, None if none do."""
    moments = first_moments(picture, mark, row)
    return None if None in moments else max(moments)


def fewest_row(picture, mark):
    """Return the shortest, then least row that makes the picture one patch."""
    depth_of(picture, mark)
    board = check_patches(picture, MOST_PATCHES)
    every = (1 << len(board.corners)) - 1
    near = [sum([1 << other for other in others]) for others in board.near]
    # sets of spots are numbers; each set of one length is reached first by its least row
    rows = {1 << board.marks[mark]: ()}
    edge = list(rows)
    while every not in rows:
        further = []
        for inside in edge:
            for colour, grown in _grown_sets(board.start, near, inside):
                if grown not in rows:
                    rows[grown] = rows[inside] + (colour,)
                    further.append(grown)
        edge = further
    return rows[every]


def _grown_sets(colours, near, inside):
    """Return the couples (colour, set of spots inside behind a pour of it) for all colours at the border, ascending."""
    border = 0
    for spot, others in enumerate(near):
        if (inside >> spot) & 1 == 1:
            border = border | others
    grown = {}
    for spot, colour in enumerate(colours):
        if ((border & ~inside) >> spot) & 1 == 1:
            grown[colour] = grown.get(colour, inside) | (1 << spot)
    return sorted(grown.items())


def measures_of(picture, mark):
    """Return the Measures of the picture for the mark."""
    depth = depth_of(picture, mark)
    row = fewest_row(picture, mark)
    always = depth * (len(set(picture.colours)) - 1)
    return Measures(floor_of(picture, mark), len(row), len(greedy_row(picture, mark)), always)
