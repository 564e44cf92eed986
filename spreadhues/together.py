"""Whether one picture has the told courses of several scripts."""

from spreadhues.fates import check_each_told, check_told, other_start, picture_of_web, strands_of
from spreadhues.running import course_of
from spreadhues.scripts import check_firsts
from spreadhues.strands import Web


class Had:
    """A picture that has all told courses."""

    def __init__(self, picture):
        self.picture = picture

    def __eq__(self, other):
        return isinstance(other, Had) and self.picture == other.picture


class NotHad:
    """The first joining of a told course that lacks a tie: no picture has all the courses."""

    def __init__(self, index, moment):
        self.index = index
        self.moment = moment

    def __eq__(self, other):
        return isinstance(other, NotHad) and self.index == other.index and self.moment == other.moment


def had_together(firsts, told):
    """Return Had with a picture that has all told courses, or NotHad."""
    checked = check_each_told(firsts, told)
    starts = check_firsts(None, firsts)
    other = other_start(checked)
    if other is not None:
        return NotHad(other, 0)
    web = Web(strands_of(starts, checked))
    lack = web.lack()
    if lack is not None:
        index, moment = lack
        return NotHad(index, moment)
    return Had(picture_of_web(starts, web))


def had_fault(firsts, told, picture):
    """Return None if the picture has all told courses, else the first word that applies."""
    checked = check_told(firsts, told)
    starts = check_firsts(None, firsts)
    if len(picture.marks) != len(starts):
        return "marks"
    if tuple([picture.colours[cell] for cell in picture.marks]) != starts:
        return "firsts"
    if not all([course_of(picture, script) == course for script, course in checked]):
        return "course"
    return None
