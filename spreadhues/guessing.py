"""Pictures guessed from sights: readings of the sights, and a picture that shows them all."""

from spreadhues.colours import is_whole
from spreadhues.looms import Loom, check_numbers, had_rows
from spreadhues.running import marks_seen
from spreadhues.scripts import check_firsts
from spreadhues.seenrows import MOST_SIGHTS, check_sights


class Fit:
    """A picture that shows all the sights."""

    def __init__(self, picture):
        self.picture = picture

    def __eq__(self, other):
        return isinstance(other, Fit) and self.picture == other.picture


class NoFit:
    """The index of the first sight that no picture shows together with those ahead of it."""

    def __init__(self, index):
        self.index = index

    def __eq__(self, other):
        return isinstance(other, NoFit) and self.index == other.index


def check_seen(firsts, sights):
    """Return the first colours and up to three sights as tuples or raise what is wrong with them."""
    checked = check_sights(firsts, sights, MOST_SIGHTS)
    check_numbers(scripts_of(checked))
    return check_firsts(None, firsts), checked


def scripts_of(sights):
    """Return the scripts of the sights."""
    return [script for script, rows in sights]


def readings_of(firsts, sights):
    """Yield all readings of the sights, ascending."""
    starts, checked = check_seen(firsts, sights)
    loom = Loom(starts, scripts_of(checked))
    choices = [loom.fitting(sight) for sight in checked]
    for row in had_rows(loom, choices):
        yield tuple([loom.strands[place].partings for place in row])


def fitting_picture(firsts, sights):
    """Return Fit with a picture that shows all the sights, or NoFit."""
    starts, checked = check_seen(firsts, sights)
    loom = Loom(starts, scripts_of(checked))
    choices = [loom.fitting(sight) for sight in checked]
    index = first_unshown(loom, choices)
    return Fit(loom.picture_of(loom.first_row(choices))) if index is None else NoFit(index)


def first_unshown(loom, choices):
    """Return the index of the first choice that lets no row be had with those ahead of it, None if there is none."""
    for index in range(len(choices)):
        if loom.first_row(choices[:index + 1]) is None:
            return index
    return None


def fit_fault(firsts, sights, answer):
    """Return None if the answer of fitting_picture is right, else the first word that applies."""
    due = fitting_picture(firsts, sights)
    if isinstance(answer, Fit):
        return _picture_word(tuple(firsts), sights, answer.picture)
    if isinstance(answer, NoFit):
        return None if is_whole(answer.index) and answer == due else "index"
    return "answer"


def _picture_word(firsts, sights, picture):
    if len(picture.marks) != len(firsts):
        return "marks"
    if tuple([picture.colours[cell] for cell in picture.marks]) != firsts:
        return "firsts"
    return None if shows_all(picture, check_sights(firsts, sights)) else "sight"


def shows_all(picture, sights):
    """Return whether the picture, with the first colours of the sights, shows all of them."""
    return all([marks_seen(picture, script) == rows for script, rows in sights])
