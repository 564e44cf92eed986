"""One picture that tells all rows of pours apart: the tree of all struck rows, and the row read from it."""

from spreadhues.colours import is_sequence, is_whole, wrong_colour
from spreadhues.errors import BadCount, BadShown, TooMany
from spreadhues.everydepth import MOST_COUNTED_COLOURS
from spreadhues.pictures import MOST_CELLS, Picture
from spreadhues.reaching import shown_by_row
from spreadhues.scripts import MOST_POURS


def _check_tree(colours, pours, first):
    if not is_whole(colours, 2, MOST_COUNTED_COLOURS):
        raise BadCount("colours")
    if not is_whole(pours, 1, MOST_POURS):
        raise BadCount("pours")
    if not is_whole(first, 0, colours - 1):
        raise BadCount("first")
    many = 1
    level = 1
    for _ in range(pours - 1):
        level = level * (colours - 1)
        many = many + level
    if many > MOST_CELLS:
        raise TooMany(MOST_CELLS)


def _tree_rows(colours, pours, first):
    """Return the rows of the cells, by length, those of equal length ascending."""
    rows = [()]
    level = [()]
    for _ in range(pours - 1):
        level = [row + (colour,) for row in level for colour in range(colours) if colour != _last(row, first)]
        rows.extend(level)
    return rows


def _last(row, first):
    return row[-1] if row else first


def telling_tree(colours, pours, first):
    """Return the picture with one cell for each struck row of fewer colours than pours."""
    _check_tree(colours, pours, first)
    rows = _tree_rows(colours, pours, first)
    cells = {row: cell for cell, row in enumerate(rows)}
    ties = [(cells[row[:-1]], cell) for cell, row in enumerate(rows) if row]
    return Picture([_last(row, first) for row in rows], ties, [0])


def told_row(colours, pours, first, shown):
    """Return the one least equal row of at most so many pours that leaves the tree in these colours."""
    tree = telling_tree(colours, pours, first)
    if not is_sequence(shown) or len(shown) != len(tree) or wrong_colour(shown) is not None:
        raise BadShown(shown)
    end = shown[0]
    rows = _tree_rows(colours, pours, first)
    heads = [row for cell, row in enumerate(rows) if shown[cell] == end and tree.colours[cell] != end]
    # the rows stand by length, so the last head is a longest one
    row = heads[-1] + (end,) if heads else ()
    if end >= colours or shown_by_row(tree, 0, row) != tuple(shown):
        raise BadShown(shown)
    return row
