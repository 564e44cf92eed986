"""All courses of a script: what its pours can join on some picture."""

from spreadhues.following import is_of_one_colour, shown_behind
from spreadhues.lots import all_partings, joined_lots
from spreadhues.scripts import check_firsts, check_script


def courses_of(firsts, script):
    """Yield all courses that follow the rule for the first colours and the script, ascending."""
    starts = check_firsts(None, firsts)
    pours = check_script(len(starts), script)
    for course, seen in led_courses(first_partings(starts), starts, pours):
        yield course


def first_partings(firsts):
    """Return the partings that marks of these colours can have at moment 0, ascending."""
    return [parting for parting in all_partings(len(firsts)) if is_of_one_colour(parting, firsts)]


def led_courses(partings, firsts, pours):
    """Return the couples (course, what is seen along it) that begin with one of the ascending partings, ascending."""
    begun = [((parting,), (firsts,)) for parting in partings]
    for pour in pours:
        # courses of one length that are led on in order, each to ascending partings, ascend
        begun = [
            (course + (parting,), seen + (shown,))
            for course, seen in begun
            for parting, shown in led_on(course[-1], seen[-1], pour)
        ]
    return begun


def led_on(parting, shown, pour):
    """Return the couples (parting, colours of the marks) to which the rule lets a pour lead, ascending."""
    mark, colour = pour
    if shown[mark] == colour:
        return [(parting, shown)]
    joined = [[mark]]
    for lead, own in enumerate(parting):
        if lead == own and shown[lead] == colour:
            joined = joined + [chosen + [lead] for chosen in joined]
    behind = sorted([joined_lots(parting, chosen) for chosen in joined])
    return [(further, shown_behind(shown, pour, further)) for further in behind]
