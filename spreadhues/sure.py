"""What is sure in a picture of which only the first colours of the marks are known."""

from spreadhues.colours import check_colour, is_whole
from spreadhues.courses import first_partings, led_on
from spreadhues.errors import BadMoment
from spreadhues.facts import check_fact, fact_holds
from spreadhues.fates import whole_picture
from spreadhues.pictures import check_mark
from spreadhues.running import run_script
from spreadhues.scripts import check_firsts, check_script


class Sure:
    """The fact holds in all such pictures."""

    def __eq__(self, other):
        return isinstance(other, Sure)


class Never:
    """The fact holds in no such picture."""

    def __eq__(self, other):
        return isinstance(other, Never)


class Both:
    """Two such pictures: the fact holds in the first and fails in the second."""

    def __init__(self, holds, fails):
        self.holds = holds
        self.fails = fails

    def __eq__(self, other):
        return isinstance(other, Both) and self.holds == other.holds and self.fails == other.fails


def _checked(firsts, script):
    starts = check_firsts(None, firsts)
    return starts, check_script(len(starts), script)


def check_moment(pours, moment):
    """Raise BadMoment if the script of the pours has no such moment."""
    if not is_whole(moment, 0, len(pours)):
        raise BadMoment(moment)


def _ways_it_can_stand(starts, pours):
    """Return a dict of all couples (parting, colours) behind the pours, each with one course that leads to it."""
    standing = {(parting, starts): (parting,) for parting in first_partings(starts)}
    for pour in pours:
        standing = _ways_behind(standing, pour)
    return standing


def _ways_behind(standing, pour):
    behind = {}
    for (parting, shown), course in standing.items():
        for further in led_on(parting, shown, pour):
            behind.setdefault(further, course + (further[0],))
    return behind


def surely(firsts, script, moment, fact):
    """Return Sure, Never or Both for the fact at the moment of the script."""
    starts, pours = _checked(firsts, script)
    check_moment(pours, moment)
    checked = check_fact(len(starts), fact)
    head = pours[:moment]
    courses = {True: [], False: []}
    for (parting, shown), course in _ways_it_can_stand(starts, head).items():
        courses[fact_holds(parting, shown, checked)].append(course)
    if not courses[False]:
        return Sure()
    if not courses[True]:
        return Never()
    # one course alone is always had by the whole picture of it
    return Both(whole_picture(starts, [(head, courses[True][0])]), whole_picture(starts, [(head, courses[False][0])]))


def sure_fault(firsts, script, moment, fact, told):
    """Return None if the result of surely is right, else the first word that applies."""
    due = surely(firsts, script, moment, fact)
    if isinstance(told, (Sure, Never)):
        return None if told == due else "verdict"
    if not isinstance(told, Both):
        return "told"
    starts, pours = _checked(firsts, script)
    for picture in (told.holds, told.fails):
        if tuple([picture.colours[cell] for cell in picture.marks]) != starts:
            return "firsts"
    if not _holds_in(told.holds, pours, moment, fact):
        return "holds"
    return "fails" if _holds_in(told.fails, pours, moment, fact) else None


def _holds_in(picture, pours, moment, fact):
    parting, shown = run_script(picture, pours).moments[moment]
    return fact_holds(parting, shown, fact)


def rows_at(firsts, script, moment):
    """Return all rows of colours that the marks can have at the moment, ascending."""
    starts, pours = _checked(firsts, script)
    check_moment(pours, moment)
    return tuple(sorted({shown for parting, shown in _ways_it_can_stand(starts, pours[:moment])}))


def end_rows(firsts, script):
    """Return all rows of colours that the marks can have behind the script, ascending."""
    starts, pours = _checked(firsts, script)
    return rows_at(starts, pours, len(pours))


def joining_moments(firsts, script, one, other):
    """Return all moments that can be the first at which the two marks are one, and None if they need never be."""
    starts, pours = _checked(firsts, script)
    check_mark(len(starts), one)
    check_mark(len(starts), other)
    apart = [(parting, starts) for parting in first_partings(starts)]
    found = []
    for moment in range(len(pours) + 1):
        if moment > 0:
            apart = _led_on_all(apart, pours[moment - 1])
        if not all([parting[one] != parting[other] for parting, shown in apart]):
            found.append(moment)
        apart = [(parting, shown) for parting, shown in apart if parting[one] != parting[other]]
    return tuple(found + [None]) if apart else tuple(found)


def _led_on_all(standing, pour):
    return sorted({further for parting, shown in standing for further in led_on(parting, shown, pour)})


def end_colours(firsts, script, colour):
    """Return all colours that a cell of this first colour can have behind the script, ascending."""
    starts, pours = _checked(firsts, script)
    check_colour(colour)
    # a cell is told by a mark in whose lot it lies, by None as long as it lies in no lot
    places = [(parting, starts, None) for parting in first_partings(starts)]
    for mark, own in enumerate(starts):
        if own == colour:
            places.extend([(parting, starts, mark) for parting in first_partings(starts)])
    for pour in pours:
        behind = {}
        for parting, shown, place in places:
            may_come = place is None and pour[1] == colour and shown[pour[0]] != colour
            for further, colours in led_on(parting, shown, pour):
                behind[(further, colours, place)] = True
                if may_come:
                    behind[(further, colours, pour[0])] = True
        places = list(behind)
    ends = [colour if place is None else shown[place] for parting, shown, place in places]
    return tuple(sorted(set(ends)))
