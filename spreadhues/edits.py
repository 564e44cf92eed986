"""Edits of a picture and its script, and those that are quiet."""

from spreadhues.colours import is_colour, is_sequence, is_whole
from spreadhues.errors import BadEdits, LongScript
from spreadhues.painting import free_cells
from spreadhues.pictures import Picture
from spreadhues.running import came_at, idle_pours
from spreadhues.scripts import MOST_POURS, check_script

MOST_EDITS = 5
LENGTHS = {"paint": 3, "tie": 3, "untie": 3, "put": 4, "strike": 2}


def check_edits(picture, script, edits):
    """Return the edits as a tuple of tuples or raise BadEdits."""
    return check_edits_of(picture, check_script(len(picture.marks), script), edits, 0)


def check_edits_of(picture, pours, edits, least):
    """Return at least so many edits of a picture and its checked script as a tuple of tuples or raise BadEdits."""
    if not is_sequence(edits) or not least <= len(edits) <= MOST_EDITS:
        raise BadEdits(0, "many")
    for index, edit in enumerate(edits):
        word = _edit_fault(picture, pours, edit)
        if word is not None:
            raise BadEdits(index, word)
    return tuple([tuple(edit) for edit in edits])


def _edit_fault(picture, pours, edit):
    if not is_sequence(edit) or len(edit) == 0 or not isinstance(edit[0], str):
        return "edit"
    if LENGTHS.get(edit[0]) != len(edit):
        return "edit"
    if edit[0] == "paint":
        return _paint_fault(picture, edit)
    if edit[0] == "put":
        return _put_fault(picture, pours, edit)
    if edit[0] == "strike":
        return None if is_whole(edit[1], 0, len(pours) - 1) else "index"
    return _tie_fault(picture, edit)


def _paint_fault(picture, edit):
    if not is_whole(edit[1], 0, len(picture) - 1):
        return "cell"
    return None if is_colour(edit[2]) else "colour"


def _tie_fault(picture, edit):
    if not is_whole(edit[1], 0, len(picture) - 1) or not is_whole(edit[2], 0, len(picture) - 1):
        return "cell"
    return "tie" if edit[1] == edit[2] else None


def _put_fault(picture, pours, edit):
    if not is_whole(edit[1], 0, len(pours)):
        return "index"
    if not is_whole(edit[2], 0, len(picture.marks) - 1):
        return "mark"
    return None if is_colour(edit[3]) else "colour"


def edited(picture, script, edits):
    """Return the couple (picture, script) behind the edits."""
    pours = check_script(len(picture.marks), script)
    return edit_both(picture, pours, check_edits(picture, pours, edits))


def edit_both(picture, pours, edits):
    """Return the couple (picture, script) behind checked edits of a checked script or raise LongScript."""
    script = _edited_script(pours, edits)
    if len(script) > MOST_POURS:
        raise LongScript(len(script))
    return _edited_picture(picture, edits), script


def _edited_script(pours, edits):
    puts = [[] for index in range(len(pours) + 1)]
    struck = []
    for edit in edits:
        if edit[0] == "put":
            puts[edit[1]].append((edit[2], edit[3]))
        if edit[0] == "strike":
            struck.append(edit[1])
    script = []
    for index, further in enumerate(puts):
        script.extend(further)
        if index < len(pours) and index not in struck:
            script.append(pours[index])
    return tuple(script)


def _edited_picture(picture, edits):
    colours = list(picture.colours)
    ties = {tie: True for tie in picture.ties}
    for edit in edits:
        if edit[0] == "paint":
            colours[edit[1]] = edit[2]
        if edit[0] in ("tie", "untie"):
            ties[(min(edit[1], edit[2]), max(edit[1], edit[2]))] = edit[0] == "tie"
    return Picture(colours, [tie for tie, stands in ties.items() if stands], picture.marks)


def quiet_edits(picture, script, edits):
    """Return the indices of the edits that are quiet, each judged alone by the run without any edits, ascending."""
    pours = check_script(len(picture.marks), script)
    checked = check_edits(picture, pours, edits)
    came = came_at(picture, pours)
    free = free_cells(picture, pours)
    idle = idle_pours(picture, pours)
    return tuple([index for index, edit in enumerate(checked) if _is_quiet(edit, came, free, idle)])


def _is_quiet(edit, came, free, idle):
    if edit[0] == "paint":
        return edit[1] in free
    if edit[0] in ("tie", "untie"):
        return came[edit[1]] is None and came[edit[2]] is None
    return edit[0] == "strike" and edit[1] in idle
