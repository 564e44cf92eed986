"""Sights: scripts with the colours that the marks of an unseen picture showed along them, and courses that fit."""

from spreadhues.colours import is_couple, is_sequence
from spreadhues.courses import first_partings, led_on
from spreadhues.errors import BadFirsts, BadScript, BadSight
from spreadhues.scripts import check_firsts, check_script

MOST_SIGHTS = 3


def check_sights(firsts, sights, most=MOST_SIGHTS):
    """Return the sights as a tuple of couples of tuples or raise BadSight."""
    starts = check_firsts(None, firsts)
    if not is_sequence(sights) or len(sights) > most:
        raise BadSight(0, "many")
    for index, sight in enumerate(sights):
        word = _sight_fault(starts, sight)
        if word is not None:
            raise BadSight(index, word)
    return tuple([
        (check_script(len(starts), script), tuple([tuple(row) for row in rows]))
        for script, rows in sights
    ])


def _sight_fault(firsts, sight):
    if not is_couple(sight):
        return "sight"
    script, rows = sight
    try:
        check_script(len(firsts), script)
    except BadScript:
        return "script"
    if not is_sequence(rows) or len(rows) != len(script) + 1:
        return "rows"
    if not all([_is_row(len(firsts), row) for row in rows]):
        return "rows"
    return None if tuple(rows[0]) == firsts else "firsts"


def _is_row(marks, row):
    try:
        check_firsts(marks, row)
    except BadFirsts:
        return False
    return True


def fit_rows(starts, script, rows):
    """Return the courses that show the first of the rows, as many as there are pours and one more, ascending."""
    begun = [(parting,) for parting in first_partings(starts)]
    for index, pour in enumerate(script):
        begun = [
            course + (parting,)
            for course in begun
            for parting, shown in led_on(course[-1], rows[index], pour)
            if shown == rows[index + 1]
        ]
    return begun


def fitting_courses(firsts, sight):
    """Yield all courses that fit the sight, ascending."""
    script, rows = check_sights(firsts, [sight], 1)[0]
    for course in fit_rows(rows[0], script, rows):
        yield course


def unseeable_moment(firsts, sight):
    """Return the least moment up to which no course fits the sight, None if some course fits it whole."""
    script, rows = check_sights(firsts, [sight], 1)[0]
    for moment in range(1, len(script) + 1):
        if not fit_rows(rows[0], script[:moment], rows):
            return moment
    return None
