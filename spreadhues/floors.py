"""Rows of pours into one mark that make a picture one patch: floor, greedy row and fewest row."""

from spreadhues.boards import Board
from spreadhues.patches import numbers_of
from spreadhues.pictures import check_mark
from spreadhues.reaching import depth_of, first_moments
from spreadhues.standings import MOST_PATCHES, check_patches


class Measures:
    """Four lengths: the floor, those of the fewest and of the greedy row, and the one that always does."""

    def __init__(self, floor, fewest, greedy, always):
        self.floor = floor
        self.fewest = fewest
        self.greedy = greedy
        self.always = always

    @property
    def loss(self):
        return self.greedy - self.fewest

    def __eq__(self, other):
        return (
            isinstance(other, Measures)
            and self.floor == other.floor
            and self.fewest == other.fewest
            and self.greedy == other.greedy
            and self.always == other.always
        )


def floor_of(picture, mark):
    """Return a number of pours into the mark below which no row makes the picture one patch."""
    depth = depth_of(picture, mark)
    numbers = numbers_of(picture)
    own = numbers[picture.marks[mark]]
    return max(depth, len({colour for colour, number in zip(picture.colours, numbers) if number != own}))


def greedy_row(picture, mark):
    """Return the row each pour of which takes most cells, the least colour of several such ones."""
    check_mark(len(picture.marks), mark)
    board = Board(picture, numbers_of(picture))
    sizes = [0 for spot in board.corners]
    for spot in board.numbers:
        sizes[spot] += 1
    row = []
    inside = {board.marks[mark]: True}
    border = _border_spots(board.near, inside)
    while border:
        grown = {}
        for spot in border:
            colour = board.start[spot]
            grown[colour] = grown.get(colour, 0) + sizes[spot]
        row.append(min([(-size, colour) for colour, size in grown.items()])[1])
        taken = [spot for spot in border if board.start[spot] == row[-1]]
        for spot in taken:
            inside[spot] = True
        border = _border_spots(board.near, inside)
    return tuple(row)


def _border_spots(near, inside):
    """Return the spots outside that are tied to one inside, ascending."""
    return sorted({other for spot in inside for other in near[spot] if other not in inside})


def joining_head(picture, mark, row):
    """Return how many first pours of the row make the picture one patch, None if none do."""
    moments = first_moments(picture, mark, row)
    return None if None in moments else max(moments)


def fewest_row(picture, mark):
    """Return the shortest, then least row that makes the picture one patch."""
    depth_of(picture, mark)
    board = check_patches(picture, MOST_PATCHES)
    every = (1 << len(board.corners)) - 1
    near = [sum([1 << other for other in others]) for others in board.near]
    # sets of spots are numbers, each with the least row that leads to it
    rows = {1 << board.marks[mark]: ()}
    while every not in rows:
        rows = _longer_rows(board.start, near, rows)
    return rows[every]


def _longer_rows(colours, near, rows):
    """Return a dict: for each set to which one more pour leads, the least row; both dicts ascend by their rows."""
    longer = {}
    for inside, row in rows.items():
        for colour, grown in _grown_sets(colours, near, inside):
            longer.setdefault(grown, row + (colour,))
    return longer


def _grown_sets(colours, near, inside):
    """Return the couples (colour, set of spots inside behind a pour of it) for all colours at the border, ascending."""
    border = 0
    for spot, others in enumerate(near):
        if (inside >> spot) & 1 == 1:
            border = border | others
    grown = {}
    for spot, colour in enumerate(colours):
        if ((border & ~inside) >> spot) & 1 == 1:
            grown[colour] = grown.get(colour, inside) | (1 << spot)
    return sorted(grown.items())


def measures_of(picture, mark):
    """Return the Measures of the picture for the mark."""
    depth = depth_of(picture, mark)
    row = fewest_row(picture, mark)
    always = depth * (len(set(picture.colours)) - 1)
    return Measures(floor_of(picture, mark), len(row), len(greedy_row(picture, mark)), always)
