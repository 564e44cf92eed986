"""Bars: drawings of bundles on squares, each lot a bar on a level of its own, each way a column between two bars."""

from spreadhues.bundles import least_bundle, table_of_bundle
from spreadhues.colours import check_colour
from spreadhues.errors import NoRoom, WallUsed
from spreadhues.lots import lots_of
from spreadhues.pictures import MOST_CELLS
from spreadhues.squares import MOST_COLUMNS, Squares

# the columns from left to right: marks of a bar, and ways between two bars. The bars that a way must not cross
# begin behind its column or end ahead of it.
PLAN = ((0, 0), (3, 3), (2, 2), (0, 2), (2, 3), (1, 1), (1, 2), (0, 1), (1, 3), (0, 3))
INNER_BARS = (1, 2)


def bars_size(bundle):
    """Return the couple (levels, columns) of a drawing of the bundle."""
    lots = len(lots_of(table_of_bundle(bundle).parting))
    ways = _drawn_ways(bundle)
    return lots + (lots - 1) * _gap(ways), len(bundle.firsts) + 2 * len(ways)


def _drawn_ways(bundle):
    return [way for way in least_bundle(bundle).ways if len(way[2]) > 1]


def _gap(ways):
    """Return the number of levels between two bars."""
    return max([1] + [len(row) - 2 for one, other, row in ways])


def check_drawable(bundle, wall):
    """Raise BadColour or WallUsed if the bundle cannot be drawn with such walls."""
    check_colour(wall)
    used = list(bundle.firsts)
    for one, other, row in bundle.ways:
        used.extend(row)
    if wall in used:
        raise WallUsed(wall)


def drawn_bars(bundle, wall):
    """Return the drawing of the bundle on squares, with walls of the told colour."""
    check_drawable(bundle, wall)
    levels, columns = bars_size(bundle)
    if levels * columns > MOST_CELLS or columns > MOST_COLUMNS:
        raise NoRoom(levels * columns)
    lots = lots_of(table_of_bundle(bundle).parting)
    ways = _drawn_ways(bundle)
    strips = _strips(lots, ways)
    step = _gap(ways) + 1
    grid = [[wall for column in range(columns)] for level in range(levels)]
    for bar, lot in enumerate(lots):
        spanned = [column for column, (low, high, what) in enumerate(strips) if bar in (low, high)]
        for column in range(min(spanned), max(spanned) + 1):
            grid[bar * step][column] = bundle.firsts[lot[0]]
    places = {}
    for column, (low, high, what) in enumerate(strips):
        if low != high:
            _draw_way(grid, column, low * step, high * step, what)
        elif what is not None:
            places[what] = (low * step, column)
    return Squares(grid, [places[mark] for mark in range(len(bundle.firsts))])


def _strips(lots, ways):
    """Return for each column the two bars that end in it, and its mark or its row; walls alone have neither."""
    bars = {lot[0]: bar for bar, lot in enumerate(lots)}
    told = {pair: [] for pair in PLAN}
    for one, other, row in ways:
        told[(bars[one], bars[other])].append(row)
    lone = []
    strips = []
    for low, high in PLAN:
        if low == high:
            marks = [(low, low, mark) for mark in lots[low]] if low < len(lots) else []
            # an inner bar without ways stands behind all ways, where it is tied to none
            if low in INNER_BARS and not _has_ways(told, low):
                lone.extend(marks)
            else:
                strips.extend(marks)
        for row in told[(low, high)]:
            strips.extend([(low, high, row), (None, None, None)])
    return strips + lone


def _has_ways(told, bar):
    return any([len(rows) > 0 and bar in pair for pair, rows in told.items()])


def _draw_way(grid, column, low, high, row):
    """Draw the inner colours of the row between two bars, stretched; without any, the lower bar is drawn out."""
    inner = row[1:-1] if len(row) > 2 else row[:1]
    for level in range(low + 1, high):
        grid[level][column] = inner[min(level - low, len(inner)) - 1]
