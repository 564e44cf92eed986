"""Choices of pours, and the standings to which these lead."""

from spreadhues.boards import Board, all_pours
from spreadhues.colours import is_colour, is_sequence, is_whole
from spreadhues.errors import BadChoice, TooMany
from spreadhues.patches import numbers_of
from spreadhues.pictures import with_colours
from spreadhues.running import poured

MOST_CHOSEN = 2
MOST_CHOSEN_COLOURS = 4
MOST_PATCHES = 10


def are_unlike_marks(picture, marks, most):
    """Return whether the thing is a sequence of one to so many unlike marks' numbers."""
    if not is_sequence(marks) or not 1 <= len(marks) <= most:
        return False
    return all([is_whole(mark, 0, len(picture.marks) - 1) for mark in marks]) and len(set(marks)) == len(marks)


def are_unlike_colours(colours, most):
    """Return whether the thing is a sequence of one to so many unlike colours."""
    if not is_sequence(colours) or not 1 <= len(colours) <= most:
        return False
    return all([is_colour(colour) for colour in colours]) and len(set(colours)) == len(colours)


def check_choice(picture, chosen, colours):
    """Return the couple of the chosen marks and colours, both ascending, or raise BadChoice."""
    if not are_unlike_marks(picture, chosen, MOST_CHOSEN):
        raise BadChoice("marks")
    if not are_unlike_colours(colours, MOST_CHOSEN_COLOURS):
        raise BadChoice("colours")
    return tuple(sorted(chosen)), tuple(sorted(colours))


def is_standing(picture, thing):
    """Return whether the thing is a tuple of one colour for each cell."""
    return isinstance(thing, tuple) and len(thing) == len(picture) and all([is_colour(colour) for colour in thing])


def same_standing(one, other):
    """Return whether two standings are equal; True and False are no colours."""
    return one == other and not any([isinstance(colour, bool) for colour in other])


def standing_behind(picture, standing, pour):
    """Return the standing behind the pour."""
    return poured(with_colours(picture, standing), pour).colours


def check_patches(picture, most):
    """Return the board of the picture's patches; raise TooMany if there are more."""
    numbers = numbers_of(picture)
    if max(numbers) + 1 > most:
        raise TooMany(most)
    return Board(picture, numbers)


def closed_standings(picture, chosen, colours):
    """Return all standings to which pours of the choice lead, ascending."""
    marks, tints = check_choice(picture, chosen, colours)
    board = check_patches(picture, MOST_PATCHES)
    return shown_ascending(board, led_standings(board, all_pours(marks, tints)))


def led_standings(board, pours):
    """Return a dict of all standings of the board to which the pours lead, with the standings behind each pour."""
    led = {}
    waiting = [board.start]
    while waiting:
        standing = waiting.pop()
        if standing not in led:
            led[standing] = [board.behind(standing, pour) for pour in pours]
            waiting.extend(led[standing])
    return led


def shown_ascending(board, standings):
    """Return the cells' colours in all the standings of the board, ascending."""
    return tuple([board.cells_in(standing) for standing in sorted(standings)])
