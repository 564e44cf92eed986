"""Bundles: marks and separate ways between them, told by rows of colours alone."""

from spreadhues.colours import is_sequence, is_whole, wrong_colour
from spreadhues.errors import BadBundle, TooMany
from spreadhues.lots import joined_lots
from spreadhues.pictures import Picture
from spreadhues.rowsone import strike
from spreadhues.scripts import MOST_MARKS, check_pour, check_script
from spreadhues.tables import MOST_IN_ROW, Table, is_struck, lot_pairs
from spreadhues.ways import least_rows

MOST_WAYS = 40


class Bundle:
    """First colours of marks, and ways (mark, mark, row) between them."""

    def __init__(self, firsts, ways):
        self.firsts = _checked_firsts(firsts)
        self.ways = _checked_ways(ways, self.firsts)

    def __eq__(self, other):
        return isinstance(other, Bundle) and self.firsts == other.firsts and self.ways == other.ways


def _checked_firsts(firsts):
    if not is_sequence(firsts) or not 1 <= len(firsts) <= MOST_MARKS or wrong_colour(firsts) is not None:
        raise BadBundle(0, "firsts")
    return tuple(firsts)


def _checked_ways(ways, firsts):
    if not is_sequence(ways) or len(ways) > MOST_WAYS:
        raise BadBundle(0, "ways")
    for index, way in enumerate(ways):
        word = _way_fault(way, firsts)
        if word is not None:
            raise BadBundle(index, word)
    return tuple([(one, other, tuple(row)) for one, other, row in ways])


def _way_fault(way, firsts):
    if not is_sequence(way) or len(way) != 3:
        return "way"
    one, other, row = way
    if not is_whole(other, 0, len(firsts) - 1) or not is_whole(one, 0, other - 1):
        return "marks"
    if not is_struck(row) or not 1 <= len(row) <= MOST_IN_ROW:
        return "row"
    return None if row[0] == firsts[one] and row[-1] == firsts[other] else "ends"


def picture_of_bundle(bundle):
    """Return the picture of separate ways: the marks, then way by way the cells between."""
    colours = list(bundle.firsts)
    ties = []
    for one, other, row in bundle.ways:
        inner = row[1:-1]
        cells = [one] + list(range(len(colours), len(colours) + len(inner))) + [other]
        ties.extend([(cells[at], cells[at + 1]) for at in range(len(cells) - 1)])
        colours.extend(inner)
    return Picture(colours, ties, list(range(len(bundle.firsts))))


def _parting(bundle):
    parting = tuple(range(len(bundle.firsts)))
    for one, other, row in bundle.ways:
        if len(row) == 1:
            parting = joined_lots(parting, [one, other])
    return parting


def poured_bundle(bundle, pour):
    """Return the bundle behind the pour."""
    mark, colour = check_pour(len(bundle.firsts), pour)
    parting = _parting(bundle)
    lot = [other for other, lead in enumerate(parting) if lead == parting[mark]]
    firsts = [colour if other in lot else own for other, own in enumerate(bundle.firsts)]
    ways = [(one, other, _poured_row(row, one in lot, other in lot, colour)) for one, other, row in bundle.ways]
    return Bundle(firsts, ways)


def _poured_row(row, at_head, at_end, colour):
    entries = list(row)
    if at_head:
        entries[0] = colour
    if at_end:
        entries[-1] = colour
    return strike(entries)


def bundle_moments(bundle, script):
    """Return the couple (parting, colours of the marks) for each moment of the script, by rows alone."""
    pours = check_script(len(bundle.firsts), script)
    now = bundle
    moments = [(_parting(now), now.firsts)]
    for pour in pours:
        now = poured_bundle(now, pour)
        moments.append((_parting(now), now.firsts))
    return tuple(moments)


def table_of_bundle(bundle):
    """Return the Table of the picture of the bundle, by rows alone."""
    parting = _parting(bundle)
    found = {pair: [] for pair in lot_pairs(parting)}
    for one, other, row in bundle.ways:
        start = parting[one]
        end = parting[other]
        if start < end:
            found[(start, end)].append(row)
        elif end < start:
            found[(end, start)].append(row[::-1])
    return Table(parting, bundle.firsts, [(one, other, least_rows(rows)) for (one, other), rows in found.items()])


def bundle_of_table(table):
    """Return the Bundle whose ways are the lots and the least rows of the table."""
    ways = [(lead, mark, (table.colours[mark],)) for mark, lead in enumerate(table.parting) if lead != mark]
    for one, other, rows in table.rows:
        ways.extend([(one, other, row) for row in rows])
    if len(ways) > MOST_WAYS:
        raise TooMany(MOST_WAYS)
    return Bundle(table.colours, ways)


def least_bundle(bundle):
    """Return the bundle of the table of the bundle."""
    return bundle_of_table(table_of_bundle(bundle))


def needless_ways(bundle):
    """Return the indices of the ways without which, each left out alone, the table is the same."""
    due = table_of_bundle(bundle)
    needless = []
    for index in range(len(bundle.ways)):
        rest = Bundle(bundle.firsts, bundle.ways[:index] + bundle.ways[index + 1:])
        if table_of_bundle(rest) == due:
            needless.append(index)
    return tuple(needless)
