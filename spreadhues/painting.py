"""Cells beyond: which cells a script never touches, and with which colours a cell comes."""

from spreadhues.errors import MarkCell
from spreadhues.patches import coloured
from spreadhues.pictures import check_cell, near_lists
from spreadhues.running import came_at
from spreadhues.scripts import check_script


def free_cells(picture, script):
    """Return the cells that never come and are tied to no cell that comes, ascending."""
    came = came_at(picture, script)
    near = near_lists(len(picture), picture.ties)
    return tuple([
        cell
        for cell, moment in enumerate(came)
        if moment is None and all([came[other] is None for other in near[cell]])
    ])


def reaching_colours(picture, script, cell):
    """Return the colours with which the cell, painted so at the beginning, comes, ascending."""
    pours = check_script(len(picture.marks), script)
    check_cell(picture, cell)
    if cell in picture.marks:
        raise MarkCell(picture.marks.index(cell))
    # a cell comes only by the first colour of a mark or by a pour of its own colour
    poured_colours = [colour for mark, colour in pours]
    mark_colours = [picture.colours[other] for other in picture.marks]
    tried = sorted(set(poured_colours + mark_colours))
    return tuple([colour for colour in tried if came_at(coloured(picture, [cell], colour), pours)[cell] is not None])
