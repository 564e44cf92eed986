"""Tables: the least rows between the lots of a picture, and runs reckoned from them alone."""

from spreadhues.colours import is_sequence, is_whole, wrong_colour
from spreadhues.errors import BadTable
from spreadhues.islands import check_barred
from spreadhues.lots import is_parting, joined_lots
from spreadhues.pictures import check_mark
from spreadhues.running import parting_of
from spreadhues.rowsone import find_places, strike
from spreadhues.scripts import check_script
from spreadhues.ways import MOST_WILD, check_wild_patches, rows_between

MOST_TABLE_ROWS = 200
MOST_IN_ROW = 16


class Table:
    """A parting, the colours of the marks, and the least rows between each two lots."""

    def __init__(self, parting, colours, rows):
        if not is_parting(parting):
            raise BadTable(0, "parting")
        if not _are_lots_colours(parting, colours):
            raise BadTable(0, "colours")
        self.parting = tuple(parting)
        self.colours = tuple(colours)
        self.rows = _checked_rows(self.parting, self.colours, rows)

    def __eq__(self, other):
        return (
            isinstance(other, Table)
            and self.parting == other.parting
            and self.colours == other.colours
            and self.rows == other.rows
        )

    def between(self, mark, to):
        """Return the rows from the lot of the one mark to that of the other."""
        check_mark(len(self.parting), mark)
        check_mark(len(self.parting), to)
        one = self.parting[mark]
        other = self.parting[to]
        if one == other:
            return ((self.colours[mark],),)
        pair = (min(one, other), max(one, other))
        rows = [item[2] for item in self.rows if item[:2] == pair][0]
        return rows if one < other else by_length([row[::-1] for row in rows])


def by_length(rows):
    """Return the rows by length, those of equal length ascending."""
    return tuple(sorted([tuple(told) for told in rows], key=lambda row: (len(row), row)))


def lot_pairs(parting):
    """Return the couples of lots, told by their least marks, ascending."""
    leads = [mark for mark, lead in enumerate(parting) if mark == lead]
    return [(one, other) for one in leads for other in leads if one < other]


def _are_lots_colours(parting, colours):
    if not is_sequence(colours) or len(colours) != len(parting) or wrong_colour(colours) is not None:
        return False
    return all([colours[mark] == colours[lead] for mark, lead in enumerate(parting)])


def _checked_rows(parting, colours, rows):
    pairs = lot_pairs(parting)
    if not is_sequence(rows) or len(rows) != len(pairs):
        raise BadTable(0, "pairs")
    checked = []
    for index, (one, other) in enumerate(pairs):
        word = _item_fault(one, other, colours, rows[index])
        if word is not None:
            raise BadTable(index, word)
        checked.append((one, other, by_length(rows[index][2])))
    return tuple(checked)


def _item_fault(one, other, colours, item):
    if not is_sequence(item) or len(item) != 3:
        return "pair"
    if not is_whole(item[0], one, one) or not is_whole(item[1], other, other):
        return "pair"
    if not is_sequence(item[2]) or len(item[2]) > MOST_TABLE_ROWS:
        return "row"
    if not all([_is_row_between(row, colours[one], colours[other]) for row in item[2]]):
        return "row"
    return "hidden" if _is_one_hidden(by_length(item[2])) else None


def _is_row_between(row, start, end):
    if not is_struck(row) or not 2 <= len(row) <= MOST_IN_ROW:
        return False
    return row[0] == start and row[-1] == end


def is_struck(thing):
    """Return whether the thing is a sequence of colours no two neighbours of which are equal."""
    return is_sequence(thing) and wrong_colour(thing) is None and strike(thing) == tuple(thing)


def _is_one_hidden(rows):
    """Return whether one of the rows, that stand by length, is hidden in another one."""
    for index, row in enumerate(rows):
        if not all([find_places(other, row) is None for other in rows[:index]]):
            return True
    return False


def table_of(picture, barred=()):
    """Return the Table of the picture."""
    checked = check_barred(picture, barred)
    check_wild_patches(picture, checked, MOST_WILD)
    parting = parting_of(picture)
    rows = [(one, other, rows_between(picture, one, other, checked)) for one, other in lot_pairs(parting)]
    return Table(parting, [picture.colours[cell] for cell in picture.marks], rows)


def run_by_table(table, script):
    """Return the moments of the script, reckoned from the table alone."""
    pours = check_script(len(table.parting), script)
    parting = table.parting
    colours = table.colours
    left = [(one, other, row[1:-1]) for one, other, rows in table.rows for row in rows]
    moments = [(parting, colours)]
    for mark, colour in pours:
        lead = parting[mark]
        left = [_eaten(item, parting, lead, colour) for item in left]
        colours = tuple([colour if lot == lead else own for lot, own in zip(parting, colours)])
        ends = [mark]
        for one, other, inner in left:
            if not inner and colours[one] == colours[other] and lead in (parting[one], parting[other]):
                ends.extend([one, other])
        parting = joined_lots(parting, ends)
        moments.append((parting, colours))
    return tuple(moments)


def _eaten(item, parting, lead, colour):
    """Return what a pour of the colour into the lot leaves of a row of which just one end lies in it."""
    one, other, inner = item
    if parting[one] == lead and parting[other] != lead and inner[:1] == (colour,):
        return (one, other, inner[1:])
    if parting[other] == lead and parting[one] != lead and inner[-1:] == (colour,):
        return (one, other, inner[:-1])
    return item
