"""Islands: connected parts of the cells that lie in no mark's patch and have no barred colour."""

from spreadhues.colours import check_colours
from spreadhues.errors import BarredMark, NotSeparate
from spreadhues.patches import numbers_of, patch_numbers
from spreadhues.pictures import check_cells, near_lists

MOST_LOTS_AT = 2


def check_barred(picture, barred):
    """Return the barred colours, ascending; raise BarredMark if a mark's cell has one of them."""
    checked = check_colours(barred)
    for mark, cell in enumerate(picture.marks):
        if picture.colours[cell] in checked:
            raise BarredMark(mark)
    return checked


def wild_cells(picture, numbers, barred):
    """Return for each cell whether it is wild; numbers are those of the patches, barred is checked."""
    taken = [numbers[cell] for cell in picture.marks]
    return [number not in taken and colour not in barred for number, colour in zip(numbers, picture.colours)]


def islands_of(picture, barred=()):
    """Return the islands, ordered by their least cells."""
    checked = check_barred(picture, barred)
    wild = wild_cells(picture, numbers_of(picture), checked)
    # parts of wild cells are had as patches are, with wild or not in the place of colours
    parts = patch_numbers(near_lists(len(picture), picture.ties), wild)
    islands = {}
    for cell, part in enumerate(parts):
        if wild[cell]:
            islands.setdefault(part, []).append(cell)
    return tuple([tuple(island) for island in islands.values()])


def lots_at(picture, cells):
    """Return the least mark of each lot whose patch is tied to one of the cells, ascending."""
    chosen = check_cells(picture, cells)
    return _lots_touched(picture, numbers_of(picture), near_lists(len(picture), picture.ties), chosen)


def _lots_touched(picture, numbers, near, cells):
    patches = [numbers[cell] for cell in picture.marks]
    touched = sorted({numbers[other] for cell in cells for other in near[cell]})
    return tuple([mark for mark, patch in enumerate(patches) if patches.index(patch) == mark and patch in touched])


def _crowded_island(picture, barred):
    """Return the first island that has three or more lots at it, None if there is none."""
    islands = islands_of(picture, barred)
    numbers = numbers_of(picture)
    near = near_lists(len(picture), picture.ties)
    for island in islands:
        if len(_lots_touched(picture, numbers, near, island)) > MOST_LOTS_AT:
            return island
    return None


def is_separate(picture, barred=()):
    """Return whether no island has three or more lots at it."""
    return _crowded_island(picture, barred) is None


def check_separate(picture, barred=()):
    """Raise NotSeparate if an island has three or more lots at it."""
    island = _crowded_island(picture, barred)
    if island is not None:
        raise NotSeparate(island[0])
