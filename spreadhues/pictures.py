"""Pictures: coloured cells, ties between them and marked cells."""

from spreadhues.colours import is_couple, is_sequence, is_whole, wrong_colour
from spreadhues.errors import BadPicture, NoCell, NoMark
from spreadhues.scripts import MOST_MARKS

MOST_CELLS = 700
MOST_TIES = 2000


class Picture:
    """A picture that does not change."""

    def __init__(self, colours, ties, marks):
        self.colours = _checked_cells(colours)
        self.ties = _checked_ties(ties, len(self.colours))
        self.marks = _checked_marks(marks, len(self.colours))

    def __len__(self):
        return len(self.colours)

    def __eq__(self, other):
        return (
            isinstance(other, Picture)
            and self.colours == other.colours
            and self.ties == other.ties
            and self.marks == other.marks
        )


def _checked_cells(colours):
    if not is_sequence(colours) or not 1 <= len(colours) <= MOST_CELLS:
        raise BadPicture(0, "cells")
    wrong = wrong_colour(colours)
    if wrong is not None:
        raise BadPicture(wrong, "colour")
    return tuple(colours)


def _checked_ties(ties, many):
    if not is_sequence(ties) or len(ties) > MOST_TIES:
        raise BadPicture(0, "ties")
    for index, tie in enumerate(ties):
        if not _is_tie(tie, many):
            raise BadPicture(index, "tie")
    return tuple(sorted({(min(one, other), max(one, other)) for one, other in ties}))


def _is_tie(tie, many):
    if not is_couple(tie):
        return False
    one, other = tie
    return is_whole(one, 0, many - 1) and is_whole(other, 0, many - 1) and one != other


def _checked_marks(marks, many):
    if not is_sequence(marks) or not 1 <= len(marks) <= MOST_MARKS:
        raise BadPicture(0, "marks")
    for index, cell in enumerate(marks):
        if not is_whole(cell, 0, many - 1) or cell in marks[:index]:
            raise BadPicture(index, "mark")
    return tuple(marks)


def check_cell(picture, cell):
    """Return the cell or raise NoCell if the picture has no such cell."""
    if not is_whole(cell, 0, len(picture) - 1):
        raise NoCell(cell)
    return cell


def check_cells(picture, cells):
    """Return a sequence of cells as a tuple or raise NoCell."""
    if not is_sequence(cells):
        raise NoCell(cells)
    return tuple([check_cell(picture, cell) for cell in cells])


def check_mark(marks, mark):
    """Return the mark's number or raise NoMark if there are not so many marks."""
    if not is_whole(mark, 0, marks - 1):
        raise NoMark(mark)
    return mark


def neighbours_of(picture, cell):
    """Return the cells that are tied to the cell, ascending."""
    check_cell(picture, cell)
    return tuple(near_lists(len(picture), picture.ties)[cell])


def near_lists(many, ties):
    """Return for each of so many cells the list of those tied to it.

    The lists ascend, for the ties of a picture are ascending couples (less, greater).
    """
    near = [[] for cell in range(many)]
    for less, greater in ties:
        near[less].append(greater)
        near[greater].append(less)
    return near


def with_colours(picture, colours):
    """Return the picture with other colours of its cells."""
    if is_sequence(colours) and len(colours) != len(picture):
        raise BadPicture(0, "cells")
    return Picture(colours, picture.ties, picture.marks)


def with_marks(picture, marks):
    """Return the picture with other marks."""
    return Picture(picture.colours, picture.ties, marks)
