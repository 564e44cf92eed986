"""Courses of scripts, judged and followed by the rule that needs no picture."""

from spreadhues.colours import is_sequence
from spreadhues.errors import BadCourse
from spreadhues.lots import is_finer, is_parting, joined_lots
from spreadhues.scripts import check_firsts, check_script


def check_course(firsts, script, course):
    """Return the course as a tuple of tuples if it follows the rule or raise BadCourse."""
    return _checked(firsts, script, course)[2]


def _checked(firsts, script, course):
    """Return the first colours, the pours and the course, all checked."""
    starts = check_firsts(None, firsts)
    pours = check_script(len(starts), script)
    if not is_sequence(course) or len(course) != len(pours) + 1:
        raise BadCourse(0, "many")
    shown = starts
    for moment, parting in enumerate(course):
        if not is_parting(parting) or len(parting) != len(starts):
            raise BadCourse(moment, "parting")
        if moment == 0:
            if not is_of_one_colour(parting, starts):
                raise BadCourse(0, "colour")
            continue
        before = course[moment - 1]
        if not is_finer(before, parting):
            raise BadCourse(moment, "parted")
        if not _may_join(before, shown, pours[moment - 1], parting):
            raise BadCourse(moment, "joined")
        shown = shown_behind(shown, pours[moment - 1], parting)
    return starts, pours, tuple([tuple(parting) for parting in course])


def is_of_one_colour(parting, colours):
    """Return whether marks that are one have one colour."""
    return all([colours[mark] == colours[lead] for mark, lead in enumerate(parting)])


def _may_join(before, shown, pour, parting):
    """Return whether the rule lets the lots of before join to those of the parting at the pour."""
    mark, colour = pour
    joined = _marks_joined(before, mark, parting)
    if joined and shown[mark] == colour:
        return False
    if not all([shown[other] == colour for other in joined]):
        return False
    return joined_lots(before, joined + [mark]) == tuple(parting)


def _marks_joined(before, mark, parting):
    """Return the marks that are one with the mark in the parting and were not one with it before."""
    return [
        other
        for other, lead in enumerate(parting)
        if lead == parting[mark] and before[other] != before[mark]
    ]


def shown_behind(shown, pour, parting):
    """Return the colours of the marks behind the pour that led to the parting."""
    mark, colour = pour
    return tuple([colour if parting[other] == parting[mark] else own for other, own in enumerate(shown)])


def seen_along(firsts, script, course):
    """Return the colours of the marks at all moments of the course."""
    starts, pours, partings = _checked(firsts, script, course)
    rows = [starts]
    for index, pour in enumerate(pours):
        rows.append(shown_behind(rows[-1], pour, partings[index + 1]))
    return tuple(rows)


def joinings_of(firsts, script, course):
    """Return a triple (moment, lead, joined) for each moment at which lots join."""
    pours, partings = _checked(firsts, script, course)[1:]
    found = []
    for index, pour in enumerate(pours):
        mark = pour[0]
        before = partings[index]
        joined = sorted({before[other] for other in _marks_joined(before, mark, partings[index + 1])})
        if joined:
            found.append((index + 1, before[mark], tuple(joined)))
    return tuple(found)
