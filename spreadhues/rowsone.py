"""Rows of pours into one mark: which do the same, and which reach all that others reach."""

from spreadhues.colours import check_colour, check_row, is_sequence
from spreadhues.errors import BadRow, BadRows

MOST_ROW = 40
MOST_LONG_ROW = 120
MOST_COVERED = 12
MOST_ROWS = 3


class PartingLine:
    """The colours of a line whose last cell tells two rows of pours apart."""

    def __init__(self, colours):
        self.colours = colours

    def __eq__(self, other):
        return isinstance(other, PartingLine) and self.colours == other.colours


def struck_row(row):
    """Return the row with one colour left of each stretch of equal neighbours."""
    return strike(check_row(row, MOST_ROW))


def strike(row):
    """Return the row, of any length, struck."""
    return tuple([colour for index, colour in enumerate(row) if index == 0 or row[index - 1] != colour])


def least_equal_row(row, first=None):
    """Return the shortest row that does the same, with the first colour if it is told."""
    checked = check_row(row, MOST_ROW)
    _check_first(first)
    return _least_equal(checked, first)


def _check_first(first):
    if first is not None:
        check_colour(first)


def _least_equal(row, first):
    struck = strike(row)
    return struck[1:] if struck[:1] == (first,) else struck


def hidden_places(row, within):
    """Return the earliest places at which the row is hidden within the other one, None if it is not."""
    checked = check_row(row, MOST_ROW)
    return find_places(checked, check_row(within, MOST_ROW))


def find_places(row, within):
    """Return the earliest places of a row within another one, both of any length, or None."""
    places = []
    for place, colour in enumerate(within):
        if len(places) < len(row) and row[len(places)] == colour:
            places.append(place)
    return tuple(places) if len(places) == len(row) else None


def is_hidden(row, within):
    """Return whether the row is hidden within the other one."""
    return hidden_places(row, within) is not None


def next_places(row):
    """Return, for each place and the end, a dict: for each colour from there on the place behind its next one."""
    tables = [{}]
    for place in range(len(row) - 1, -1, -1):
        earlier = {colour: tables[-1][colour] for colour in tables[-1]}
        earlier[row[place]] = place + 1
        tables.append(earlier)
    return tables[::-1]


def rows_alike(one, other, first=None):
    """Return None if the rows do the same to all pictures, else the least PartingLine."""
    left = check_row(one, MOST_ROW)
    right = check_row(other, MOST_ROW)
    _check_first(first)
    if _least_equal(left, first) == _least_equal(right, first):
        return None
    lines = []
    for start in _starts(first):
        lines.extend(_unlike_lines(left, right, start))
    return _least_line(lines)


def _starts(first):
    # a way cannot begin with its line's first colour, and one of two colours always lets it be
    return (0, 1) if first is None else (first,)


def _least_line(lines):
    return PartingLine(min(lines, key=lambda line: (len(line), line)))


def _unlike_lines(one, other, start):
    """Return lines from the first colour on that part the rows, the least one of all among them."""
    if _end_of(one, start) != _end_of(other, start):
        return [(start,)]
    # the shortest way hidden in one row alone never ends with the common end colour:
    # without this colour it would still be hidden in that row alone
    return _lacking_lines(one, other, start) + _lacking_lines(other, one, start)


def _end_of(row, start):
    return row[-1] if row else start


def reach_lacks(one, other, first=None):
    """Return None if the other row reaches all that the one reaches, else the least PartingLine."""
    left = check_row(one, MOST_ROW)
    right = check_row(other, MOST_ROW)
    _check_first(first)
    if find_places(_least_equal(left, first), right) is not None:
        return None
    lines = []
    for start in _starts(first):
        lines.extend(_lacking_lines(left, right, start))
    return _least_line(lines)


def _lacking_lines(one, other, start):
    """Return a list with the least line whose way is hidden in the one row alone, or without any line.

    Goes through the ways hidden in both rows by length. Ways that end at the same places
    of both rows can be led on alike, so the least one stands for all of them.
    """
    steps = next_places(one)
    other_steps = next_places(other)
    lines = {(0, 0): (start,)}
    lacking = []
    while lines and not lacking:
        lacking, lines = _longer_lines(steps, other_steps, lines)
    return sorted(lacking)[:1]


def _longer_lines(steps, other_steps, lines):
    """Return the lines of one more colour: a list of those hidden in the one row alone, a dict of those in both."""
    lacking = []
    further = {}
    for (at, other_at), line in lines.items():
        for colour in steps[at]:
            if colour == line[-1]:
                continue
            longer = line + (colour,)
            if colour not in other_steps[other_at]:
                lacking.append(longer)
                continue
            state = (steps[at][colour], other_steps[other_at][colour])
            further[state] = min(longer, further.get(state, longer))
    return lacking, further


def shortest_over(rows, first=None):
    """Return the shortest, then least row that reaches all that one of the rows reaches."""
    if not is_sequence(rows) or not 1 <= len(rows) <= MOST_ROWS:
        raise BadRows(0)
    for index, row in enumerate(rows):
        if not _is_coverable(row):
            raise BadRows(index)
    _check_first(first)
    return _shortest_common([_least_equal(tuple(row), first) for row in rows])


def _is_coverable(row):
    try:
        check_row(row, MOST_COVERED)
    except BadRow:
        return False
    return True


def _shortest_common(rows):
    """Return the shortest, then least row in which all the rows are hidden."""
    goal = tuple([len(row) for row in rows])
    start = tuple([0 for row in rows])
    heads = {start: ()}
    while goal not in heads:
        heads = _longer_heads(rows, heads)
    return heads[goal]


def _longer_heads(rows, heads):
    """Return a dict: for each state to which one more colour leads, the least head that leads there."""
    longer = {}
    for state, head in heads.items():
        nexts = [row[at] for row, at in zip(rows, state) if at < len(row)]
        for colour in sorted(set(nexts)):
            behind = tuple([at + 1 if row[at:at + 1] == (colour,) else at for row, at in zip(rows, state)])
            further = head + (colour,)
            longer[behind] = min(further, longer.get(behind, further))
    return longer
