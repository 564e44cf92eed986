"""Wishes: what is to hold in a picture."""

from spreadhues.colours import is_colour, is_sequence, is_whole
from spreadhues.errors import BadWish
from spreadhues.patches import numbers_of


def check_wish(picture, wish):
    """Return the wish as a tuple or raise BadWish."""
    if not is_sequence(wish) or not _is_wish(picture, tuple(wish)):
        raise BadWish(wish)
    return tuple(wish)


def _is_wish(picture, wish):
    last_mark = len(picture.marks) - 1
    if len(wish) == 1:
        return wish[0] == "all one"
    if len(wish) == 2:
        return wish[0] == "reached" and is_whole(wish[1], 0, len(picture) - 1)
    if len(wish) != 3 or not is_whole(wish[1], 0, last_mark):
        return False
    if wish[0] == "one":
        return is_whole(wish[2], 0, last_mark) and wish[2] != wish[1]
    return wish[0] == "colour" and is_colour(wish[2])


def wish_holds(picture, wish):
    """Return whether the wish holds in the picture as it is."""
    return holds_among(picture.marks, picture.colours, numbers_of(picture), check_wish(picture, wish))


def holds_among(marks, colours, numbers, wish):
    """Return whether a checked wish holds, told the marks' cells, and the colours and patches of all cells."""
    if wish[0] == "all one":
        return max(numbers) == 0
    if wish[0] == "one":
        return numbers[marks[wish[1]]] == numbers[marks[wish[2]]]
    if wish[0] == "colour":
        return colours[marks[wish[1]]] == wish[2]
    return numbers[wish[1]] in [numbers[cell] for cell in marks]
