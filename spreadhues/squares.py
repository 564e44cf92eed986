"""Pictures in a line and pictures on squares."""

from spreadhues.colours import check_row, is_couple, is_sequence, is_whole, wrong_colour
from spreadhues.errors import BadRow, BadSquares
from spreadhues.pictures import MOST_CELLS, Picture
from spreadhues.scripts import MOST_MARKS

MOST_LEVELS = 60
MOST_COLUMNS = 60


class Squares:
    """A picture on squares: levels of colours, and the places of its marks."""

    def __init__(self, levels, places):
        self.levels = _checked_levels(levels)
        self.places = _checked_places(places, len(self.levels), len(self.levels[0]))

    def __eq__(self, other):
        return isinstance(other, Squares) and self.levels == other.levels and self.places == other.places


def _checked_levels(levels):
    if not is_sequence(levels) or not 1 <= len(levels) <= MOST_LEVELS:
        raise BadSquares(0, "levels")
    for index, level in enumerate(levels):
        if not is_sequence(level) or not 1 <= len(level) <= MOST_COLUMNS or len(level) != len(levels[0]):
            raise BadSquares(index, "level")
        if wrong_colour(level) is not None:
            raise BadSquares(index, "colour")
    if len(levels) * len(levels[0]) > MOST_CELLS:
        raise BadSquares(0, "squares")
    return tuple([tuple(level) for level in levels])


def _checked_places(places, levels, columns):
    if not is_sequence(places) or not 1 <= len(places) <= MOST_MARKS:
        raise BadSquares(0, "places")
    checked = []
    for index, place in enumerate(places):
        if not is_couple(place) or not is_whole(place[0], 0, levels - 1) or not is_whole(place[1], 0, columns - 1):
            raise BadSquares(index, "place")
        if tuple(place) in checked:
            raise BadSquares(index, "place")
        checked.append(tuple(place))
    return tuple(checked)


def line_picture(row):
    """Return the picture of the row, each cell tied to the next, with marks at its ends."""
    colours = check_row(row, MOST_CELLS)
    if not colours:
        raise BadRow(0)
    last = len(colours) - 1
    marks = [0] if last == 0 else [0, last]
    return Picture(colours, [(cell, cell + 1) for cell in range(last)], marks)


def picture_of_squares(squares):
    """Return the picture, its cells level by level, each from column 0 on."""
    columns = len(squares.levels[0])
    colours = [colour for level in squares.levels for colour in level]
    ties = [(cell, cell + 1) for cell in range(len(colours)) if (cell + 1) % columns != 0]
    ties.extend([(cell, cell + columns) for cell in range(len(colours) - columns)])
    return Picture(colours, ties, [level * columns + column for level, column in squares.places])
