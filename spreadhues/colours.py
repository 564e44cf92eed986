"""Whole numbers, sequences, colours, sets of colours and rows of colours."""

from spreadhues.errors import BadColour, BadColours, BadRow

MOST_COLOUR = 99
MOST_IN_SET = 20


def is_whole(thing, low=None, high=None):
    """Return whether the thing is a whole number from low to high; None is no bound."""
    if not isinstance(thing, int) or isinstance(thing, bool):
        return False
    if low is not None and thing < low:
        return False
    return high is None or thing <= high


def is_sequence(thing):
    """Return whether the thing is a list or a tuple."""
    return isinstance(thing, (list, tuple))


def is_couple(thing):
    """Return whether the thing is a sequence of two entries."""
    return is_sequence(thing) and len(thing) == 2


def is_colour(thing):
    """Return whether the thing is a colour."""
    return is_whole(thing, 0, MOST_COLOUR)


def wrong_colour(row):
    """Return the index of the first entry that is no colour, None if all are colours."""
    for index, colour in enumerate(row):
        if not is_colour(colour):
            return index
    return None


def check_colour(colour):
    """Return the colour or raise BadColour."""
    if not is_colour(colour):
        raise BadColour(colour)
    return colour


def check_colours(colours):
    """Return the unlike colours of the sequence, ascending, or raise BadColours."""
    if not is_sequence(colours) or len(colours) > MOST_IN_SET:
        raise BadColours(0)
    wrong = wrong_colour(colours)
    if wrong is not None:
        raise BadColours(wrong)
    return tuple(sorted(set(colours)))


def check_row(row, most=60):
    """Return a row of at most so many colours as a tuple or raise BadRow."""
    if not is_sequence(row) or len(row) > most:
        raise BadRow(0)
    wrong = wrong_colour(row)
    if wrong is not None:
        raise BadRow(wrong)
    return tuple(row)


def foreign_colours(many, used):
    """Return the least so many colours that do not stand in the sequence."""
    free = [colour for colour in range(MOST_COLOUR + 1) if colour not in used]
    return tuple(free[:many])
