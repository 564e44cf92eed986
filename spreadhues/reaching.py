"""What a row of pours into one mark reaches in a picture, with ways and moments that show it."""

from spreadhues.colours import check_row, is_sequence, is_whole
from spreadhues.errors import NotJoined
from spreadhues.patches import distances_of
from spreadhues.pictures import check_cell, check_mark, near_lists
from spreadhues.rowsone import MOST_LONG_ROW, find_places, next_places, strike


class WayTo:
    """A way of tied cells on which a row reaches a cell."""

    def __init__(self, cells):
        self.cells = cells

    def __eq__(self, other):
        return isinstance(other, WayTo) and self.cells == other.cells


class Unreached:
    """Moments of all cells that show that a row does not reach a cell."""

    def __init__(self, moments):
        self.moments = moments

    def __eq__(self, other):
        return isinstance(other, Unreached) and self.moments == other.moments


def patch_depths(picture, mark):
    """Return the depth of each cell, None where no way leads."""
    return distances_of(picture, [_mark_cell(picture, mark)])


def _mark_cell(picture, mark):
    return picture.marks[check_mark(len(picture.marks), mark)]


def depth_of(picture, mark):
    """Return the greatest depth of a cell or raise NotJoined."""
    depths = patch_depths(picture, mark)
    for cell, depth in enumerate(depths):
        if depth is None:
            raise NotJoined(cell)
    return max(depths)


def first_moments(picture, mark, row):
    """Return for each cell the least moment at which it lies in the mark's patch, None if it never does."""
    cell = _mark_cell(picture, mark)
    return tuple(_growth(picture, cell, check_row(row, MOST_LONG_ROW))[0])


def _growth(picture, start, row):
    """Return for each cell the moment at which the row takes it, and the cell from which it was taken."""
    near = near_lists(len(picture), picture.ties)
    moments = [None for cell in near]
    origins = [None for cell in near]
    waiting = {}
    due = [(start, None)]
    for moment in range(len(row) + 1):
        if moment > 0:
            due = waiting.pop(row[moment - 1], [])
        while due:
            cell, origin = due.pop()
            if moments[cell] is not None:
                continue
            moments[cell] = moment
            origins[cell] = origin
            for other in near[cell]:
                if picture.colours[other] == picture.colours[cell]:
                    due.append((other, cell))
                else:
                    waiting.setdefault(picture.colours[other], []).append((other, cell))
    return moments, origins


def reached_cells(picture, mark, row):
    """Return the cells that the row reaches, ascending."""
    moments = first_moments(picture, mark, row)
    return tuple([cell for cell, moment in enumerate(moments) if moment is not None])


def makes_one(picture, mark, row):
    """Return whether the picture is one patch behind the row."""
    return None not in first_moments(picture, mark, row)


def shown_by_row(picture, mark, row):
    """Return the colours of all cells behind the row."""
    moments = first_moments(picture, mark, row)
    end = row[-1] if row else picture.colours[picture.marks[mark]]
    return tuple([own if moment is None else end for own, moment in zip(picture.colours, moments)])


def way_to(picture, mark, row, cell):
    """Return a WayTo the cell if the row reaches it, else the Unreached that shows that it does not."""
    start = _mark_cell(picture, mark)
    moments, origins = _growth(picture, start, check_row(row, MOST_LONG_ROW))
    check_cell(picture, cell)
    if moments[cell] is None:
        return Unreached(tuple(moments))
    way = [cell]
    while way[-1] != start:
        way.append(origins[way[-1]])
    return WayTo(tuple(way[::-1]))


def way_fault(picture, mark, row, cell, answer):
    """Return None if the answer of way_to is right, else the first word that applies."""
    start = _mark_cell(picture, mark)
    pours = check_row(row, MOST_LONG_ROW)
    check_cell(picture, cell)
    if isinstance(answer, WayTo):
        return _way_word(picture, start, pours, cell, answer.cells)
    if isinstance(answer, Unreached):
        return _moments_word(picture, start, pours, cell, answer.moments)
    return "answer"


def _way_word(picture, start, row, cell, cells):
    if not is_sequence(cells) or len(cells) == 0:
        return "cells"
    if not all([is_whole(step, 0, len(picture) - 1) for step in cells]):
        return "cells"
    if cells[0] != start:
        return "mark"
    near = near_lists(len(picture), picture.ties)
    if not all([cells[at + 1] in near[cells[at]] for at in range(len(cells) - 1)]):
        return "tie"
    if len(set(cells)) != len(cells):
        return "twice"
    if cells[-1] != cell:
        return "end"
    way = strike([picture.colours[step] for step in cells])
    return "row" if find_places(way[1:], row) is None else None


def _moments_word(picture, start, row, cell, moments):
    if not is_sequence(moments) or len(moments) != len(picture):
        return "moments"
    if not all([moment is None or is_whole(moment, 0, len(row)) for moment in moments]):
        return "moments"
    if moments[start] != 0:
        return "mark"
    if _is_open(picture, row, moments):
        return "border"
    return None if moments[cell] is None else "cell"


def _is_open(picture, row, moments):
    """Return whether some tie leads out of the told moments: a cell would have to come earlier than told."""
    steps = next_places(row)
    senses = list(picture.ties) + [(greater, less) for less, greater in picture.ties]
    for one, other in senses:
        if moments[one] is None:
            continue
        due = moments[one]
        if picture.colours[one] != picture.colours[other]:
            due = steps[due].get(picture.colours[other])
        if due is not None and (moments[other] is None or moments[other] > due):
            return True
    return False
