"""Whether two scripts leave each cell of all pictures in the same colours."""

from spreadhues.colours import foreign_colours, is_whole
from spreadhues.courses import first_partings, led_courses
from spreadhues.errors import TooMany
from spreadhues.fates import picture_of_web
from spreadhues.lots import all_partings
from spreadhues.pictures import Picture
from spreadhues.running import run_script
from spreadhues.scripts import check_firsts, check_marks, check_script
from spreadhues.strands import Strand, Web

MOST_COMPARED_MARKS = 3
MOST_COMPARED_POURS = 6


class PartingPicture:
    """A picture and a cell of it that has unlike colours behind two scripts."""

    def __init__(self, picture, cell):
        self.picture = picture
        self.cell = cell

    def __eq__(self, other):
        return isinstance(other, PartingPicture) and self.picture == other.picture and self.cell == other.cell


def _check_scripts(marks, one, other, firsts):
    check_marks(marks)
    if marks > MOST_COMPARED_MARKS:
        raise TooMany(MOST_COMPARED_MARKS)
    left = check_script(marks, one)
    right = check_script(marks, other)
    if firsts is not None:
        check_firsts(marks, firsts)
    if max(len(left), len(right)) > MOST_COMPARED_POURS:
        raise TooMany(MOST_COMPARED_POURS)
    return left, right


def scripts_alike(marks, one, other, firsts=None):
    """Return None if the scripts do the same to all pictures, else a PartingPicture."""
    left, right = _check_scripts(marks, one, other, firsts)
    used = sorted({mark for mark, colour in left + right})
    if not used or left == right:
        return None
    # marks into which nothing is poured are left out, and the others are numbered anew
    left = tuple([(used.index(mark), colour) for mark, colour in left])
    right = tuple([(used.index(mark), colour) for mark, colour in right])
    if firsts is None:
        found = _part_anywhere(len(used), left, right)
    else:
        found = _part_from([firsts[mark] for mark in used], left, right)
    if found is None:
        return None
    return _with_marks_left_out(found, used, [0 for mark in range(marks)] if firsts is None else firsts)


def _part_anywhere(marks, one, other):
    for parting, starts in _tried_starts(marks, sorted({colour for mark, colour in one + other})):
        found = _part_at(parting, starts, one, other)
        if found is not None:
            return found
    return None


def _part_from(starts, one, other):
    for parting in first_partings(starts):
        found = _part_at(parting, tuple(starts), one, other)
        if found is not None:
            return found
    return None


def _tried_starts(marks, colours):
    """Return the couples (parting, first colours) to be tried, those with most colours of no pour ahead."""
    fresh = foreign_colours(marks, colours)
    starts = []
    for parting in all_partings(marks):
        rows = [()]
        for mark, lead in enumerate(parting):
            if mark == lead:
                rows = [row + (colour,) for row in rows for colour in [fresh[mark]] + colours]
            else:
                rows = [row + (row[lead],) for row in rows]
        starts.extend([(sum([colour in colours for colour in row]), parting, row) for row in rows])
    return [(parting, row) for poured, parting, row in sorted(starts)]


def _part_at(parting, starts, one, other):
    """Return a PartingPicture that begins with the parting and the colours, None if there is none."""
    colours = sorted({colour for mark, colour in one + other})
    lefts = [Strand(one, course, seen, colours) for course, seen in led_courses([parting], starts, one)]
    rights = [Strand(other, course, seen, colours) for course, seen in led_courses([parting], starts, other)]
    for left in lefts:
        for right in rights:
            web = Web([left, right])
            parted = [index for index in web.upheld() if web.ends_unlike(index)]
            if parted and web.lack() is None:
                return PartingPicture(picture_of_web(starts, web), web.upheld().index(parted[0]))
    return None


def _with_marks_left_out(found, used, firsts):
    """Return the PartingPicture with all marks: those left out lie in cells of their own without ties."""
    picture = found.picture
    colours = list(picture.colours)
    marks = []
    for mark, colour in enumerate(firsts):
        if mark in used:
            marks.append(picture.marks[used.index(mark)])
        else:
            marks.append(len(colours))
            colours.append(colour)
    return PartingPicture(Picture(colours, picture.ties, marks), found.cell)


def parting_fault(marks, one, other, firsts, told):
    """Return None if the result of scripts_alike is right, else the first word that applies."""
    left, right = _check_scripts(marks, one, other, firsts)
    if told is None:
        return None if scripts_alike(marks, left, right, firsts) is None else "alike"
    if not isinstance(told, PartingPicture):
        return "told"
    picture = told.picture
    if len(picture.marks) != marks:
        return "marks"
    if firsts is not None and [picture.colours[cell] for cell in picture.marks] != list(firsts):
        return "firsts"
    if not is_whole(told.cell, 0, len(picture) - 1):
        return "cell"
    ends = [run_script(picture, script).picture.colours[told.cell] for script in (left, right)]
    return "colour" if ends[0] == ends[1] else None
