"""Partings of the marks into lots: each mark tells the least mark of its lot."""

from spreadhues.colours import is_sequence, is_whole
from spreadhues.errors import BadParting, NoMark
from spreadhues.pictures import check_mark
from spreadhues.scripts import MOST_MARKS, check_marks


def is_parting(thing):
    """Return whether the thing is a parting of 1 to 4 marks."""
    if not is_sequence(thing) or not 1 <= len(thing) <= MOST_MARKS:
        return False
    for mark, lead in enumerate(thing):
        if not is_whole(lead, 0, mark) or thing[lead] != lead:
            return False
    return True


def check_parting(marks, parting):
    """Return a parting of so many marks as a tuple or raise BadParting."""
    check_marks(marks)
    checked = _checked(parting)
    if len(checked) != marks:
        raise BadParting(parting)
    return checked


def _checked(parting):
    if not is_parting(parting):
        raise BadParting(parting)
    return tuple(parting)


def lots_of(parting):
    """Return the lots, ascending."""
    checked = _checked(parting)
    leads = [mark for mark, lead in enumerate(checked) if mark == lead]
    return tuple([_lot_led_by(checked, lead) for lead in leads])


def lot_of(parting, mark):
    """Return the lot of the mark."""
    checked = _checked(parting)
    check_mark(len(checked), mark)
    return _lot_led_by(checked, checked[mark])


def _lot_led_by(parting, lead):
    return tuple([mark for mark, other in enumerate(parting) if other == lead])


def joined_lots(parting, chosen):
    """Return the parting in which all lots with a chosen mark are one lot."""
    checked = _checked(parting)
    if not is_sequence(chosen):
        raise NoMark(chosen)
    leads = [checked[check_mark(len(checked), mark)] for mark in chosen]
    return tuple([min(leads) if lead in leads else lead for lead in checked])


def is_finer(one, other):
    """Return whether each lot of the one parting lies in one lot of the other."""
    fine = _checked(one)
    coarse = _checked(other)
    if len(fine) != len(coarse):
        return False
    return all([coarse[mark] == coarse[lead] for mark, lead in enumerate(fine)])


def apart_all(marks):
    """Return the parting in which each mark is a lot."""
    return tuple(range(check_marks(marks)))


def all_partings(marks):
    """Yield all partings of so many marks, ascending."""
    check_marks(marks)
    rows = [()]
    for mark in range(marks):
        rows = [row + (lead,) for row in rows for lead in _leads_for(row, mark)]
    for row in rows:
        yield row


def _leads_for(row, mark):
    """Return what the next mark may tell behind the row, ascending."""
    return [lead for lead, own in enumerate(row) if lead == own] + [mark]
