"""Sights among each other: which clash, which are implied by the others, and which are enough."""

from spreadhues.asking import shown_choices
from spreadhues.courses import led_on
from spreadhues.guessing import check_seen, first_unshown, scripts_of
from spreadhues.looms import Loom
from spreadhues.parts import all_parts, has_part
from spreadhues.seenrows import fit_rows


def clashing_sights(firsts, sights):
    """Return all least sets of sights that no picture shows together."""
    starts, checked = check_seen(firsts, sights)
    loom = Loom(starts, scripts_of(checked))
    choices = [loom.fitting(sight) for sight in checked]
    clashing = []
    for chosen in all_parts(list(range(len(checked)))):
        if not has_part(chosen, clashing) and first_unshown(loom, [choices[index] for index in chosen]) is not None:
            clashing.append(chosen)
    return tuple(clashing)


def needless_sights(firsts, sights):
    """Return the indices of the sights that all the others imply, ascending."""
    starts, checked = check_seen(firsts, sights)
    shown_choices(starts, checked, [])
    return tuple([
        index
        for index, sight in enumerate(checked)
        if _implies(starts, checked[:index] + checked[index + 1:], sight)
    ])


def enough_sights(firsts, sights):
    """Return all least sets of sights that imply every sight."""
    starts, checked = check_seen(firsts, sights)
    shown_choices(starts, checked, [])
    enough = []
    for chosen in all_parts(list(range(len(checked)))):
        known = [checked[index] for index in chosen]
        if not has_part(chosen, enough) and all([_implies(starts, known, sight) for sight in checked]):
            enough.append(chosen)
    return tuple(enough)


def _implies(starts, sights, sight):
    """Return whether every picture that shows all the sights shows this one; some picture shows all."""
    script, rows = sight
    loom = Loom(starts, scripts_of(sights) + [script])
    choices = [loom.fitting(other) for other in sights]
    for moment in range(1, len(script) + 1):
        # what a picture has up to a moment leads on somehow, so a first unlike row is enough
        head = script[:moment]
        unlike = []
        for course in fit_rows(starts, head[:-1], rows):
            for parting, shown in led_on(course[-1], rows[moment - 1], head[-1]):
                if shown != rows[moment]:
                    unlike.append(loom.place_of(head, course + (parting,), rows[:moment] + (shown,)))
        if loom.first_row(choices + [unlike]) is not None:
            return False
    return True
