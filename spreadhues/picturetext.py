"""Pictures, squares and scripts written as texts, and read from them."""

from spreadhues.errors import BadText
from spreadhues.pictures import Picture
from spreadhues.squares import Squares

MOST_SIGNS = 20000
MOST_DIGITS = 4
DIGITS = "0123456789"
HEADS = ("cells", "ties", "marks")
JOINTS = (None, "-", None)


def picture_text(picture):
    """Return the picture as a text of three rows."""
    rows = [
        _row_text("cells", picture.colours),
        " ".join(["ties"] + [f"{one}-{other}" for one, other in picture.ties]),
        _row_text("marks", picture.marks),
    ]
    return "\n".join(rows)


def squares_text(squares):
    """Return the squares as a text, a row for each level and one for the marks."""
    rows = [_row_text("level", level) for level in squares.levels]
    rows.append(" ".join(["marks"] + [f"{level},{column}" for level, column in squares.places]))
    return "\n".join(rows)


def _row_text(head, numbers):
    return " ".join([head] + [str(number) for number in numbers])


def script_text(script):
    """Return the script as a text, a word for each pour."""
    return " ".join([f"{mark}:{colour}" for mark, colour in script])


def read_picture(text):
    """Return the picture that the text tells or raise BadText or BadPicture."""
    _check_text(text)
    parts = []
    for index, row in enumerate(text.split("\n")):
        part = _read_row(row, HEADS[index], JOINTS[index]) if index < len(HEADS) else None
        if part is None:
            raise BadText(index)
        parts.append(part)
    if len(parts) < len(HEADS):
        raise BadText(len(parts))
    return Picture(parts[0], parts[1], parts[2])


def read_squares(text):
    """Return the squares that the text tells or raise BadText or BadSquares."""
    _check_text(text)
    rows = text.split("\n")
    levels = []
    places = None
    for index, row in enumerate(rows):
        level = _read_row(row, "level", None)
        if places is not None or (level is None and index == 0):
            raise BadText(index)
        if level is not None:
            levels.append(level)
            continue
        places = _read_row(row, "marks", ",")
        if places is None:
            raise BadText(index)
    if places is None:
        raise BadText(len(rows))
    return Squares(levels, places)


def read_script(text):
    """Return the pours that the text tells or raise BadText with the number of a word."""
    _check_text(text)
    words = text.split(" ") if text else []
    pours = [_read_word(word, ":") for word in words]
    for index, pour in enumerate(pours):
        if pour is None:
            raise BadText(index)
    return tuple(pours)


def _check_text(text):
    if not isinstance(text, str) or len(text) > MOST_SIGNS:
        raise BadText(0)


def _read_row(row, head, joint):
    """Return what the words behind the head tell, None if the row is not of the form."""
    words = row.split(" ")
    if words[0] != head:
        return None
    told = [_read_word(word, joint) for word in words[1:]]
    for thing in told:
        if thing is None:
            return None
    return told


def _read_word(word, joint):
    """Return the number or, with a joint, the couple of numbers; None if the word is not of the form."""
    if joint is None:
        return _read_number(word)
    parts = [_read_number(part) for part in word.split(joint)]
    if len(parts) != 2 or parts[0] is None or parts[1] is None:
        return None
    return (parts[0], parts[1])


def _read_number(word):
    if not 1 <= len(word) <= MOST_DIGITS or (word[0] == "0" and len(word) > 1):
        return None
    for sign in word:
        if sign not in DIGITS:
            return None
    return int(word)
