"""Blocks of a script: stretches of pours of one colour, fuller blocks, and pours that are not needed."""

from spreadhues.colours import is_whole
from spreadhues.errors import NoPour, TooMany
from spreadhues.orders import stretches_of
from spreadhues.parts import all_parts
from spreadhues.scripts import check_marks, check_script
from spreadhues.scriptsalike import MOST_COMPARED_MARKS, MOST_COMPARED_POURS, scripts_alike

MOST_SHORTENED = 4


def blocks_of(marks, script):
    """Return the blocks (colour, marks) of the script in their order."""
    return _blocks(check_script(marks, script))


def _blocks(pours):
    return tuple([
        (stretch[0][1], tuple(sorted({mark for mark, colour in stretch})))
        for stretch in stretches_of(pours)
    ])


def first_blocks_script(blocks):
    """Return the pours that pour, block by block, into its marks in ascending order."""
    return tuple([(mark, colour) for colour, marks in blocks for mark in sorted(marks)])


def fullest_blocks(marks, script):
    """Return the blocks of the script with all marks that can be added."""
    return _fullest(marks, check_script(marks, script))


def _fullest(marks, pours):
    blocks = list(_blocks(pours))
    places = [(at, mark) for at in range(len(blocks)) for mark in range(marks)]
    grown = True
    while grown:
        grown = False
        for at, mark in places:
            colour, own = blocks[at]
            if mark not in own and _can_add(marks, blocks[:at], blocks[at], mark):
                blocks[at] = (colour, tuple(sorted(own + (mark,))))
                grown = True
    return tuple(blocks)


def _can_add(marks, earlier, block, mark):
    """Return whether the mark, which is not in the block, can be added to it behind the earlier blocks."""
    colour, own = block
    if not any([mark in others for tint, others in earlier]):
        return False
    for other in range(marks):
        if other not in own:
            tints = [tint for tint, others in earlier if mark in others or other in others]
            if tints[-1] != colour:
                return False
    return True


def surely_same(marks, one, other):
    """Return whether the fullest blocks of two scripts are equal: then they do the same."""
    return fullest_blocks(marks, one) == fullest_blocks(marks, other)


def lean_script(marks, script):
    """Return the script without the pours, from the first on, that its fullest blocks do not need."""
    left = check_script(marks, script)
    due = _fullest(marks, left)
    at = 0
    while at < len(left):
        shorter = left[:at] + left[at + 1:]
        if _fullest(marks, shorter) == due:
            left = shorter
        else:
            at += 1
    return left


def _check_compared(marks, script):
    check_marks(marks)
    if marks > MOST_COMPARED_MARKS:
        raise TooMany(MOST_COMPARED_MARKS)
    return check_script(marks, script)


def needless_fault(marks, script, index):
    """Return None if the pour of this index is needless in the script, else a PartingPicture."""
    pours = _check_compared(marks, script)
    if not is_whole(index, 0, len(pours) - 1):
        raise NoPour(index)
    if len(pours) > MOST_COMPARED_POURS:
        raise TooMany(MOST_COMPARED_POURS)
    return _parted(marks, pours, pours[:index] + pours[index + 1:])


def _parted(marks, one, other):
    """Return None if the scripts do the same, else a PartingPicture; equal fullest blocks tell it at once."""
    if _fullest(marks, one) == _fullest(marks, other):
        return None
    return scripts_alike(marks, one, other)


def shortest_alike(marks, script):
    """Return the shortest script that does the same and is had by leaving out pours, the first of several."""
    pours = _check_compared(marks, script)
    if len(pours) > MOST_SHORTENED:
        raise TooMany(MOST_SHORTENED)
    for pick in all_parts(list(range(len(pours)))):
        shorter = tuple([pours[index] for index in pick])
        if _parted(marks, pours, shorter) is None:
            return shorter
    return pours
