"""Told courses of several scripts, the fates that cells may have along them, and the whole picture of these."""

from spreadhues.colours import is_couple, is_sequence, is_whole
from spreadhues.errors import BadFate, BadTold, TooMany
from spreadhues.following import check_course, seen_along
from spreadhues.pictures import Picture
from spreadhues.scripts import check_firsts, check_script
from spreadhues.strands import Strand, Web, count_fates, in_set, list_fates, part_of

MOST_FATES = 60
MOST_TOLD = 3


def check_told(firsts, told):
    """Return the told couples (script, course) as tuples or raise what is wrong with them."""
    checked = check_each_told(firsts, told)
    other = other_start(checked)
    if other is not None:
        raise BadTold(other, "start")
    return checked


def check_each_told(firsts, told):
    """Return the told couples as tuples; each is checked by itself, so their courses may start otherwise."""
    starts = check_firsts(None, firsts)
    if not is_sequence(told) or not 1 <= len(told) <= MOST_TOLD:
        raise BadTold(0, "many")
    checked = []
    for index, item in enumerate(told):
        if not is_couple(item):
            raise BadTold(index, "couple")
        script, course = item
        partings = check_course(starts, script, course)
        checked.append((check_script(len(starts), script), partings))
    return tuple(checked)


def other_start(told):
    """Return the first index whose course starts otherwise than the first one, None if there is none."""
    for index, (script, course) in enumerate(told):
        if course[0] != told[0][1][0]:
            return index
    return None


def strands_of(firsts, told):
    """Return the strands of told couples that are checked; raise TooMany if they have too many fates."""
    colours = sorted({colour for script, course in told for mark, colour in script})
    strands = [Strand(script, course, seen_along(firsts, script, course), colours) for script, course in told]
    if count_fates(strands) > MOST_FATES:
        raise TooMany(MOST_FATES)
    return strands


def _strands(firsts, told):
    return strands_of(check_firsts(None, firsts), check_told(firsts, told))


def fates_of(firsts, told):
    """Return all fates, ascending."""
    return tuple(list_fates(_strands(firsts, told)))


def _check_thing(marks, fates, thing):
    """Return a mark's number or a fate as a tuple or raise BadFate."""
    if is_whole(thing, 0, marks - 1):
        return thing
    if not is_couple(thing) or not is_whole(thing[0]) or not is_sequence(thing[1]):
        raise BadFate(thing)
    if not all([moment is None or is_whole(moment) for moment in thing[1]]):
        raise BadFate(thing)
    fate = (thing[0], tuple(thing[1]))
    if fate not in fates:
        raise BadFate(thing)
    return fate


def thing_shows(firsts, told, thing):
    """Return for each told script a tuple with a couple (colour, lot) for each moment."""
    strands = _strands(firsts, told)
    checked = _check_thing(len(firsts), list_fates(strands), thing)
    return tuple([tuple(strand.shows[part_of(checked, at)]) for at, strand in enumerate(strands)])


def may_tie(firsts, told, one, other):
    """Return whether the two things may be tied."""
    strands = _strands(firsts, told)
    fates = list_fates(strands)
    left = _check_thing(len(firsts), fates, one)
    right = _check_thing(len(firsts), fates, other)
    return all([part_of(right, at) in strand.near[part_of(left, at)] for at, strand in enumerate(strands)])


def strikes_of(firsts, told):
    """Return the fates struck in each turn because nothing that is left upholds them."""
    web = Web(_strands(firsts, told))
    return tuple([tuple([web.things[index] for index in in_set(turn, len(web.things))]) for turn in web.turns])


def upheld_fates(firsts, told):
    """Return the fates that are left, ascending."""
    web = Web(_strands(firsts, told))
    return tuple([web.things[index] for index in web.upheld() if index >= web.marks])


def whole_picture(firsts, told):
    """Return the picture of the marks and all upheld fates, with all ties that may be."""
    strands = _strands(firsts, told)
    return picture_of_web(tuple(firsts), Web(strands))


def picture_of_web(firsts, web):
    """Return the picture whose cells are the marks and the upheld fates of the web."""
    cells = web.upheld()
    colours = list(firsts) + [web.things[index][0] for index in cells if index >= web.marks]
    ties = []
    for at, index in enumerate(cells):
        for beyond, other in enumerate(cells[:at]):
            if (web.ties[index] >> other) & 1 == 1:
                ties.append((beyond, at))
    return Picture(colours, ties, list(range(web.marks)))
