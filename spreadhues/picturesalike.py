"""Pictures that show the same colours at their marks behind all scripts, and scripts that part the others."""

from spreadhues.colours import check_colours, foreign_colours
from spreadhues.errors import BadScript, OtherMarks
from spreadhues.islands import check_barred, check_separate
from spreadhues.rowsone import find_places
from spreadhues.running import marks_seen
from spreadhues.scripts import check_script
from spreadhues.tables import table_of
from spreadhues.ways import check_wild_patches

MOST_WILD_EACH = 8


class PartingScript:
    """A script at some moment of which the marks of two pictures show unlike colours."""

    def __init__(self, script):
        self.script = script

    def __eq__(self, other):
        return isinstance(other, PartingScript) and self.script == other.script


def _check_as_many_marks(one, other):
    if len(one.marks) != len(other.marks):
        raise OtherMarks(len(one.marks), len(other.marks))


def is_lone(one, other, script):
    """Return whether all pours go into one mark behind a head of colours that neither picture has."""
    _check_as_many_marks(one, other)
    pours = check_script(len(one.marks), script)
    head = list(pours)
    while head and head[-1][0] == pours[-1][0]:
        head.pop()
    return all([colour not in one.colours and colour not in other.colours for mark, colour in head])


def _compared(one, other, barred):
    """Return None if the tables of the pictures are equal, else a lone PartingScript."""
    _check_as_many_marks(one, other)
    check_barred(one, barred)
    checked = check_barred(other, barred)
    check_wild_patches(one, checked, MOST_WILD_EACH)
    check_wild_patches(other, checked, MOST_WILD_EACH)
    left = table_of(one, checked)
    right = table_of(other, checked)
    if left == right:
        return None
    # so few patches have a colour that is not barred that two foreign colours are left
    fresh = foreign_colours(2, one.colours + other.colours + checked)
    return PartingScript(_lone_script(left, right, fresh))


def _lone_script(left, right, fresh):
    if left.colours != right.colours:
        return ()
    if left.parting != right.parting:
        return ((_mark_joined_once(left.parting, right.parting), fresh[0]),)
    for (one, other, rows), item in zip(left.rows, right.rows):
        alone = _row_alone(rows, item[2])
        if alone is not None:
            return _eating_script(left.parting, one, other, alone, fresh)
    return ()


def _mark_joined_once(left, right):
    """Return a mark that is one with some other mark in just one of the partings."""
    for mark in range(len(left)):
        if [lead == left[mark] for lead in left] != [lead == right[mark] for lead in right]:
            return mark
    return None


def _row_alone(rows, others):
    """Return a row of the one lot of rows in which none of the other lot is hidden, or the other way about."""
    for mine, yours in ((rows, others), (others, rows)):
        for row in mine:
            if all([find_places(other, row) is None for other in yours]):
                return row
    return None


def _eating_script(parting, one, other, row, fresh):
    """Return the script that takes the row from its head to its end, with all other lots put out of play."""
    aside = [mark for mark, lead in enumerate(parting) if mark == lead and mark not in (one, other)]
    pours = [(mark, fresh[0]) for mark in aside]
    pours.extend([(one, colour) for colour in row[1:]])
    return tuple(pours + [(one, fresh[1])])


def lone_alike(one, other, barred=()):
    """Return None if the pictures show the same behind all lone scripts, else a lone PartingScript."""
    return _compared(one, other, barred)


def pictures_alike(one, other, barred=()):
    """Return None if the separate pictures show the same behind all scripts, else a PartingScript."""
    found = _compared(one, other, barred)
    if found is None:
        check_separate(one, barred)
        check_separate(other, barred)
    return found


def unlike_fault(one, other, script, barred=()):
    """Return None if the marks of the pictures show unlike colours along the script, else the first word."""
    _check_as_many_marks(one, other)
    checked = check_colours(barred)
    try:
        pours = check_script(len(one.marks), script)
    except BadScript:
        return "script"
    if not all([colour not in checked for mark, colour in pours]):
        return "barred"
    return "alike" if marks_seen(one, pours) == marks_seen(other, pours) else None
