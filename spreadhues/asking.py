"""What a further script can show of an unseen picture, what is sure then, and which script tells most."""

from spreadhues.courses import first_partings, led_courses
from spreadhues.errors import NoPicture, TooMany
from spreadhues.facts import check_fact, fact_holds
from spreadhues.guessing import first_unshown, scripts_of, shows_all
from spreadhues.looms import Loom, check_numbers
from spreadhues.running import run_script
from spreadhues.scripts import check_firsts, check_script, check_scripts
from spreadhues.seenrows import check_sights
from spreadhues.sure import Both, Never, Sure, check_moment

MOST_SIGHTS_BESIDE = 2
MOST_SIGHTS_SETTLED = 1
MOST_ASKED_POURS = 6
MOST_ASKED = 8


def possible_rows(firsts, sights, script):
    """Return the rows that pictures which show all the sights show along the script, ascending."""
    checked, asked = _check_asked(firsts, sights, script)
    check_numbers(scripts_of(checked) + [asked])
    loom, choices = shown_choices(check_firsts(None, firsts), checked, [asked])
    return tuple(_rows_shown(loom, choices, asked))


def _check_asked(firsts, sights, script):
    checked = check_sights(firsts, sights, MOST_SIGHTS_BESIDE)
    return checked, _check_short(len(firsts), script)


def _check_short(marks, script):
    checked = check_script(marks, script)
    if len(checked) > MOST_ASKED_POURS:
        raise TooMany(MOST_ASKED_POURS)
    return checked


def shown_choices(starts, sights, scripts):
    """Return a loom for the sights and the further scripts, and the strands that fit each sight.

    Raises NoPicture if no picture shows all the sights.
    """
    loom = Loom(starts, scripts_of(sights) + scripts)
    choices = [loom.fitting(sight) for sight in sights]
    index = first_unshown(loom, choices)
    if index is not None:
        raise NoPicture(index)
    return loom, choices


def _rows_shown(loom, choices, script):
    by_rows = _strands_by_rows(loom, script)
    return [rows for rows in sorted(by_rows) if loom.first_row(choices + [by_rows[rows]]) is not None]


def _strands_by_rows(loom, script):
    """Return a dict: for all rows that the rule lets the script show, the strands that show them."""
    by_rows = {}
    for course, seen in led_courses(first_partings(loom.firsts), loom.firsts, script):
        by_rows.setdefault(seen, []).append(loom.place_of(script, course, seen))
    return by_rows


def _strands_by_truth(loom, head, fact):
    """Return a couple: the strands of the script behind which the fact holds, and those behind which it does not."""
    holding = []
    failing = []
    for course, seen in led_courses(first_partings(loom.firsts), loom.firsts, head):
        place = loom.place_of(head, course, seen)
        if fact_holds(course[-1], seen[-1], fact):
            holding.append(place)
        else:
            failing.append(place)
    return holding, failing


def surely_next(firsts, sights, script, moment, fact):
    """Return Sure, Never or Both for the fact at the moment of the script in the pictures that show all the sights."""
    checked, asked = _check_asked(firsts, sights, script)
    check_moment(asked, moment)
    told = check_fact(len(firsts), fact)
    check_numbers(scripts_of(checked) + [asked])
    # what a picture does up to the moment is all that counts: the pours behind it may go on anyhow
    head = asked[:moment]
    loom, choices = shown_choices(check_firsts(None, firsts), checked, [head])
    return _verdict(loom, choices, _strands_by_truth(loom, head, told))


def _verdict(loom, choices, by_truth):
    holding, failing = [loom.first_row(choices + [strands]) for strands in by_truth]
    if failing is None:
        return Sure()
    if holding is None:
        return Never()
    return Both(loom.picture_of(holding), loom.picture_of(failing))


def next_fault(firsts, sights, script, moment, fact, answer):
    """Return None if the result of surely_next is right, else the first word that applies."""
    due = surely_next(firsts, sights, script, moment, fact)
    if isinstance(answer, (Sure, Never)):
        return None if answer == due else "sure"
    if not isinstance(answer, Both):
        return "answer"
    if not isinstance(due, Both):
        return "sure"
    checked, asked = _check_asked(firsts, sights, script)
    for picture, holds in ((answer.holds, True), (answer.fails, False)):
        if tuple([picture.colours[cell] for cell in picture.marks]) != tuple(firsts):
            return "sight"
        if not shows_all(picture, checked):
            return "sight"
        parting, shown = run_script(picture, asked).moments[moment]
        if fact_holds(parting, shown, fact) != holds:
            return "fact"
    return None


def which_asks(firsts, sights, scripts):
    """Return the index of the script with most possible rows, the least one of several."""
    checked = check_sights(firsts, sights, MOST_SIGHTS_BESIDE)
    asked = check_scripts(len(firsts), scripts, MOST_ASKED, MOST_ASKED_POURS)
    for script in asked:
        check_numbers(scripts_of(checked) + [script])
    counts = []
    for script in asked:
        loom, choices = shown_choices(check_firsts(None, firsts), checked, [script])
        counts.append(len(_rows_shown(loom, choices, script)))
    return counts.index(max(counts))


def settling_asks(firsts, sights, scripts, script, moment, fact):
    """Return the indices of the scripts whose rows, whichever they are, make the fact sure or never so, ascending."""
    checked = check_sights(firsts, sights, MOST_SIGHTS_SETTLED)
    asked = check_scripts(len(firsts), scripts, MOST_ASKED, MOST_ASKED_POURS)
    last = _check_short(len(firsts), script)
    check_moment(last, moment)
    told = check_fact(len(firsts), fact)
    for other in asked:
        check_numbers(scripts_of(checked) + [other, last])
    starts = check_firsts(None, firsts)
    settling = []
    for index, other in enumerate(asked):
        loom, choices = shown_choices(starts, checked, [other, last[:moment]])
        if _settles(loom, choices, other, _strands_by_truth(loom, last[:moment], told)):
            settling.append(index)
    return tuple(settling)


def _settles(loom, choices, script, by_truth):
    by_rows = _strands_by_rows(loom, script)
    for strands in by_rows.values():
        rows = [loom.first_row(choices + [strands, ends]) for ends in by_truth]
        if None not in rows:
            return False
    return True
