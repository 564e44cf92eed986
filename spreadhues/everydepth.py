"""Rows of pours that make every picture of so many colours and of such a depth one patch."""

from spreadhues.colours import check_row, is_whole
from spreadhues.errors import BadCount
from spreadhues.rowsone import MOST_LONG_ROW, next_places

MOST_COUNTED_COLOURS = 10
MOST_DEPTH = 12


def _check_counts(colours, depth, first):
    if not is_whole(colours, 2, MOST_COUNTED_COLOURS):
        raise BadCount("colours")
    if not is_whole(depth, 0, MOST_DEPTH):
        raise BadCount("depth")
    if first is not None and not is_whole(first, 0, colours - 1):
        raise BadCount("first")


def every_length(colours, depth, first=None):
    """Return the length of the shortest rows that make every such picture one patch."""
    _check_counts(colours, depth, first)
    return _length(colours, depth, first)


def _length(colours, depth, first):
    extra = 1 if first is None and depth > 0 else 0
    return depth * (colours - 1) + extra


def every_row(colours, depth, first=None):
    """Return one of the shortest rows: round all colours."""
    _check_counts(colours, depth, first)
    start = 0 if first is None else first + 1
    return tuple([(start + place) % colours for place in range(_length(colours, depth, first))])


def all_every_rows(colours, depth, first=None):
    """Yield all the shortest rows, ascending."""
    _check_counts(colours, depth, first)
    length = _length(colours, depth, first)
    row = _least_behind([], length, colours, first)
    while row is not None:
        yield tuple(row)
        row = _row_behind(row, colours, first)


def _least_behind(head, length, colours, first):
    """Return the least row of the blocks that begins with the head."""
    row = list(head)
    while len(row) < length:
        row.append(_options(row, colours, first)[0])
    return row


def _row_behind(row, colours, first):
    """Return the next greater row of the blocks, None behind the last one."""
    for place in range(len(row) - 1, -1, -1):
        head = row[:place]
        greater = [colour for colour in _options(head, colours, first) if colour > row[place]]
        if greater:
            return _least_behind(head + [greater[0]], len(row), colours, first)
    return None


def _options(head, colours, first):
    """Return the colours that may stand behind the head, ascending."""
    size = colours if first is None else colours - 1
    if len(head) < size:
        barred = head if first is None else head + [first]
    else:
        # the last colour of the block before stands ahead of this one's own
        own = (len(head) - size) % (colours - 1)
        barred = head[len(head) - own - 1:]
    return [colour for colour in range(colours) if colour not in barred]


def count_every_rows(colours, depth, first=None):
    """Return the number of the shortest rows."""
    _check_counts(colours, depth, first)
    inner = 1
    for factor in range(2, colours):
        inner = inner * factor
    count = 1
    for block in range(depth):
        count = count * inner
        if block == 0 and first is None:
            count = count * colours
    return count


def held_depth(row, colours, first=None):
    """Return the greatest depth at which the row makes every picture one patch."""
    return len(worst_way(row, colours, first)) - 1


def worst_way(row, colours, first=None):
    """Return the shortest row that the row does not hide, each of its colours the one that comes last."""
    checked = check_row(row, MOST_LONG_ROW)
    _check_counts(colours, 0, first)
    return _worst_from(next_places(checked), 0, first, colours)


def _worst_from(steps, place, last, colours):
    """Return the worst way from the place on, behind the last colour."""
    way = []
    while place is not None:
        last, place = _latest(steps[place], last, colours)
        way.append(last)
    return tuple(way)


def _latest(step, last, colours):
    """Return the colour that comes last, and the place behind it; None is the place of one that does not come."""
    latest = None
    for colour in range(colours):
        if colour == last:
            continue
        place = step.get(colour)
        if place is None:
            return colour, None
        if latest is None or place > latest[1]:
            latest = (colour, place)
    return latest


def lacking_row(row, colours, depth, first=None):
    """Return the least struck row of the depth that the row does not hide, None if it hides all."""
    checked = check_row(row, MOST_LONG_ROW)
    _check_counts(colours, depth, first)
    steps = next_places(checked)
    if len(_worst_from(steps, 0, first, colours)) > depth:
        return None
    way = []
    place = 0
    last = first
    while len(way) < depth:
        last, place = _least_lacking(steps, place, last, colours, depth - len(way) - 1)
        way.append(last)
    return tuple(way)


def _least_lacking(steps, place, last, colours, left):
    """Return the least colour behind which a lacking row of so many colours more exists, and the place behind it."""
    options = []
    for colour in range(colours):
        behind = None if place is None else steps[place].get(colour)
        if colour != last and len(_worst_from(steps, behind, colour, colours)) <= left:
            options.append((colour, behind))
    return options[0]


def count_lacking(row, colours, depth, first=None):
    """Return how many struck rows of the depth the row does not hide."""
    checked = check_row(row, MOST_LONG_ROW)
    _check_counts(colours, depth, first)
    steps = next_places(checked)
    counts = {(0, first): 1}
    for _ in range(depth):
        counts = _counts_behind(counts, steps, colours)
    return sum([count for (place, last), count in counts.items() if place is None])


def _counts_behind(counts, steps, colours):
    """Return, for each place and last colour, how many rows of one colour more come to them."""
    longer = {}
    for (place, last), count in counts.items():
        for colour in range(colours):
            if colour != last:
                behind = None if place is None else steps[place].get(colour)
                longer[(behind, colour)] = longer.get((behind, colour), 0) + count
    return longer
