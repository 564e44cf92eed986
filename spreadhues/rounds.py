"""Rounds: a whole script run again and again on the picture that the round before has left."""

from spreadhues.colours import is_whole
from spreadhues.errors import BadTimes
from spreadhues.patches import patch_cells
from spreadhues.pictures import check_mark, near_lists, with_colours
from spreadhues.scripts import check_script

MOST_TIMES = 1000000000000


def _rounds(picture, pours, most):
    """Return the colours of all cells behind 0, 1, .. rounds until a round changes nothing, at most so many rounds."""
    near = near_lists(len(picture), picture.ties)
    rounds = [list(picture.colours)]
    settled = False
    while not settled and (most is None or len(rounds) <= most):
        colours = list(rounds[-1])
        for mark, colour in pours:
            for cell in patch_cells(near, colours, picture.marks[mark]):
                colours[cell] = colour
        settled = colours == rounds[-1]
        if not settled:
            rounds.append(colours)
    return rounds


def after_rounds(picture, script, times):
    """Return the picture behind so many rounds of the script."""
    pours = check_script(len(picture.marks), script)
    if not is_whole(times, 0, MOST_TIMES):
        raise BadTimes(times)
    return with_colours(picture, _rounds(picture, pours, times)[-1])


def _all_rounds(picture, script):
    return _rounds(picture, check_script(len(picture.marks), script), None)


def settled_after(picture, script):
    """Return the least number of rounds behind which a further round changes nothing."""
    return len(_all_rounds(picture, script)) - 1


def settled_picture(picture, script):
    """Return the picture that no further round changes."""
    return with_colours(picture, _all_rounds(picture, script)[-1])


def rounds_came(picture, script):
    """Return for each cell the round in which it first lies in a mark's patch, 0 for the beginning, None for never."""
    rounds = _all_rounds(picture, script)
    near = near_lists(len(picture), picture.ties)
    came = [None for cell in near]
    # what has come stays in a mark's patch, so it is enough to look at the ends of the rounds
    for times, colours in enumerate(rounds):
        for mark_cell in picture.marks:
            for cell in patch_cells(near, colours, mark_cell):
                if came[cell] is None:
                    came[cell] = times
    return tuple(came)


def ever_one(picture, script, mark, other):
    """Return the least number of rounds behind which the two marks are one, None if they never are."""
    rounds = _all_rounds(picture, script)
    one = picture.marks[check_mark(len(picture.marks), mark)]
    two = picture.marks[check_mark(len(picture.marks), other)]
    near = near_lists(len(picture), picture.ties)
    for times, colours in enumerate(rounds):
        if two in patch_cells(near, colours, one):
            return times
    return None
