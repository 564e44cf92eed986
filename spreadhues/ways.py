"""Ways between marks through wild cells, and the least rows of their colours."""

from spreadhues.colours import check_row, is_sequence, is_whole
from spreadhues.errors import TooMany
from spreadhues.islands import check_barred, wild_cells
from spreadhues.patches import numbers_of, patch_ties
from spreadhues.pictures import check_mark, near_lists
from spreadhues.rowsone import find_places, strike

MOST_WILD = 14


def least_rows(rows):
    """Return the unlike rows in which no other one is hidden, by length, then ascending."""
    least = []
    for length, row in sorted({(len(row), tuple(row)) for row in rows}):
        # what is hidden in a row is shorter than it, so it stands ahead
        if all([find_places(other, row) is None for other in least]):
            least.append(row)
    return tuple(least)


def check_wild_patches(picture, barred, most):
    """Raise TooMany if more than so many patches are wild; the barred colours are checked."""
    numbers = numbers_of(picture)
    wild = wild_cells(picture, numbers, barred)
    if len({number for number, free in zip(numbers, wild) if free}) > most:
        raise TooMany(most)


def _check_ends(picture, mark, to):
    marks = len(picture.marks)
    check_mark(marks, mark)
    check_mark(marks, to)


def rows_between(picture, mark, to, barred=()):
    """Return the least rows from the one mark to the other."""
    _check_ends(picture, mark, to)
    checked = check_barred(picture, barred)
    check_wild_patches(picture, checked, MOST_WILD)
    numbers = numbers_of(picture)
    start = numbers[picture.marks[mark]]
    goal = numbers[picture.marks[to]]
    colours = [None for number in range(max(numbers) + 1)]
    for cell, number in enumerate(numbers):
        colours[number] = picture.colours[cell]
    if start == goal:
        return ((colours[start],),)
    near = _near_wild(picture, numbers, checked, goal)
    return least_rows([[colours[patch] for patch in way] for way in _straight_ways(near, start, goal)])


def _near_wild(picture, numbers, barred, goal):
    """Return for each patch the list of those tied to it that are wild or the goal."""
    let = {goal: True}
    for number, free in zip(numbers, wild_cells(picture, numbers, barred)):
        if free:
            let[number] = True
    near = near_lists(max(numbers) + 1, patch_ties(picture, numbers))
    return [[patch for patch in row if patch in let] for row in near]


def _straight_ways(near, start, goal):
    """Return the ways of patches on which none are tied but neighbours: every least row is that of such a way."""
    found = []
    begun = [((start,), [])]
    while begun:
        way, passed = begun.pop()
        beyond = near[way[-1]]
        if goal in beyond:
            found.append(way + (goal,))
            continue
        for patch in beyond:
            if patch not in passed:
                begun.append((way + (patch,), passed + beyond))
    return found


def way_within(picture, mark, to, row, barred=()):
    """Return a way from the one mark to the other whose row is hidden in the told row, None if there is none."""
    _check_ends(picture, mark, to)
    told = check_row(row)
    checked = check_barred(picture, barred)
    numbers = numbers_of(picture)
    cell = picture.marks[mark]
    if numbers[cell] == numbers[picture.marks[to]]:
        return (cell,) if picture.colours[cell] in told else None
    return _grown_way(picture, numbers, mark, to, told, checked)


def _grown_way(picture, numbers, mark, to, row, barred):
    """Go along the row and take, at each place, all cells of its colour to which a way leads from the mark.

    To come to a cell at an earlier place is never worse, so each cell is taken once.
    """
    near = near_lists(len(picture), picture.ties)
    wild = wild_cells(picture, numbers, barred)
    start = picture.marks[mark]
    goal = numbers[picture.marks[to]]
    patch = [cell for cell, number in enumerate(numbers) if number == numbers[start]]
    waiting = {picture.colours[start]: [(cell, None) for cell in patch]}
    origins = {}
    for colour in row:
        due = waiting.pop(colour, [])
        while due:
            cell, origin = due.pop()
            if cell in origins:
                continue
            origins[cell] = origin
            if numbers[cell] == goal:
                return _led_back(origins, cell)
            for other in near[cell]:
                if not wild[other] and numbers[other] != goal:
                    continue
                if picture.colours[other] == colour:
                    due.append((other, cell))
                else:
                    waiting.setdefault(picture.colours[other], []).append((other, cell))
    return None


def _led_back(origins, cell):
    way = [cell]
    while origins[way[-1]] is not None:
        way.append(origins[way[-1]])
    return tuple(way[::-1])


def within_fault(picture, mark, to, row, way, barred=()):
    """Return None if the way is one whose row is hidden in the told row, else the first word that applies."""
    _check_ends(picture, mark, to)
    told = check_row(row)
    checked = check_barred(picture, barred)
    if not is_sequence(way) or len(way) == 0:
        return "cells"
    if not all([is_whole(cell, 0, len(picture) - 1) for cell in way]):
        return "cells"
    if len(set(way)) != len(way):
        return "twice"
    near = near_lists(len(picture), picture.ties)
    if not all([way[at + 1] in near[way[at]] for at in range(len(way) - 1)]):
        return "tie"
    numbers = numbers_of(picture)
    if numbers[way[0]] != numbers[picture.marks[mark]] or numbers[way[-1]] != numbers[picture.marks[to]]:
        return "ends"
    wild = wild_cells(picture, numbers, checked)
    if not all([wild[cell] for cell in way[1:-1]]):
        return "between"
    shown = strike([picture.colours[cell] for cell in way])
    return "row" if find_places(shown, told) is None else None
