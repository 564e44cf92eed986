"""Scripts: pours of colours into marks, and the first colours of the marks."""

from spreadhues.colours import is_colour, is_couple, is_sequence, is_whole, wrong_colour
from spreadhues.errors import BadFirsts, BadMarks, BadPour, BadScript, BadScripts

MOST_POURS = 12
MOST_MARKS = 4


def check_marks(marks):
    """Return the number of marks or raise BadMarks."""
    if not is_whole(marks, 1, MOST_MARKS):
        raise BadMarks(marks)
    return marks


def check_pour(marks, pour):
    """Return a pour into one of so many marks as a tuple or raise BadPour."""
    check_marks(marks)
    fault = _pour_fault(marks, pour)
    if fault is not None:
        raise BadPour(fault)
    return tuple(pour)


def check_script(marks, script):
    """Return a script for so many marks as a tuple of tuples or raise BadScript."""
    check_marks(marks)
    if not is_sequence(script) or len(script) > MOST_POURS:
        raise BadScript(0, "many")
    for index, pour in enumerate(script):
        fault = _pour_fault(marks, pour)
        if fault is not None:
            raise BadScript(index, fault)
    return tuple([tuple(pour) for pour in script])


def _pour_fault(marks, pour):
    if not is_couple(pour):
        return "pour"
    if not is_whole(pour[0], 0, marks - 1):
        return "mark"
    if not is_colour(pour[1]):
        return "colour"
    return None


def check_scripts(marks, scripts, most, longest):
    """Return one to so many scripts, none of more pours than the longest, as a tuple or raise BadScripts."""
    if not is_sequence(scripts) or not 1 <= len(scripts) <= most:
        raise BadScripts(0)
    for index, script in enumerate(scripts):
        if not _is_script(marks, script) or len(script) > longest:
            raise BadScripts(index)
    return tuple([check_script(marks, script) for script in scripts])


def _is_script(marks, script):
    try:
        check_script(marks, script)
    except BadScript:
        return False
    return True


def check_firsts(marks, firsts):
    """Return one colour for each mark as a tuple or raise BadFirsts; None lets 1 to 4 marks be."""
    if marks is not None:
        check_marks(marks)
    if not is_sequence(firsts) or not _is_due(len(firsts), marks):
        raise BadFirsts(0)
    wrong = wrong_colour(firsts)
    if wrong is not None:
        raise BadFirsts(wrong)
    return tuple(firsts)


def _is_due(many, marks):
    if marks is None:
        return 1 <= many <= MOST_MARKS
    return many == marks
