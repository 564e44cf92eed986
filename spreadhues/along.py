"""Other names for colours and another order of marks, led along through rows, pictures and scripts."""

from spreadhues.colours import check_row, is_colour, is_couple, is_sequence, is_whole
from spreadhues.errors import BadNaming, BadOrder
from spreadhues.pictures import with_colours, with_marks
from spreadhues.scripts import MOST_MARKS


def renamed_row(row, pairs):
    """Return the row with the new colours of the naming."""
    return _renamed(check_row(row), pairs)


def renamed_colours(picture, pairs):
    """Return the picture with the new colours of the naming."""
    return with_colours(picture, _renamed(picture.colours, pairs))


def renamed_script(script, pairs):
    """Return the script with the new colours of the naming."""
    colours = _renamed([colour for mark, colour in script], pairs)
    return tuple([(pour[0], colours[index]) for index, pour in enumerate(script)])


def _renamed(colours, pairs):
    news = _checked_naming(pairs)
    taken = list(news.values())
    for colour in colours:
        if colour not in news and colour in taken:
            # such a colour would become one with another colour that was unlike it
            raise BadNaming(len(pairs))
    return tuple([news.get(colour, colour) for colour in colours])


def _checked_naming(pairs):
    if not is_sequence(pairs):
        raise BadNaming(0)
    news = {}
    for index, pair in enumerate(pairs):
        if not is_couple(pair) or not is_colour(pair[0]) or not is_colour(pair[1]):
            raise BadNaming(index)
        if pair[0] in news or pair[1] in list(news.values()):
            raise BadNaming(index)
        news[pair[0]] = pair[1]
    return news


def exchanged_marks(picture, order):
    """Return the picture whose mark k is the mark order[k] of before."""
    checked = _checked_order(order, len(picture.marks))
    return with_marks(picture, [picture.marks[mark] for mark in checked])


def exchanged_script(script, order):
    """Return the script that pours into the same cells when the marks are exchanged."""
    if not is_sequence(order) or not 1 <= len(order) <= MOST_MARKS:
        raise BadOrder(order)
    checked = _checked_order(order, len(order))
    return tuple([(checked.index(mark), colour) for mark, colour in script])


def _checked_order(order, marks):
    if not is_sequence(order) or len(order) != marks:
        raise BadOrder(order)
    for index, mark in enumerate(order):
        if not is_whole(mark, 0, marks - 1) or mark in order[:index]:
            raise BadOrder(order)
    return tuple(order)
