"""Books of two hands judged, and play by them."""

from spreadhues.boards import Board, all_pours, is_pour_of
from spreadhues.colours import is_whole
from spreadhues.errors import BadMost, ForeignPour
from spreadhues.hands import MINE, THEIRS, Forced, Kept, check_hands, forced
from spreadhues.patches import numbers_of
from spreadhues.running import poured
from spreadhues.standings import is_standing
from spreadhues.wishes import check_wish, wish_holds

MOST_TURNS = 60


class Played:
    """All pours of a play, the picture behind them, and whether the aim holds in it."""

    def __init__(self, pours, picture, held):
        self.pours = pours
        self.picture = picture
        self.held = held

    def __eq__(self, other):
        return (
            isinstance(other, Played)
            and self.pours == other.pours
            and self.picture == other.picture
            and self.held == other.held
        )


class Shelf:
    """The ranks of a book's rows by their standings.

    A place is a couple of a board and a standing on it. Standings with one colour for each patch of the picture
    have places on the board of the patches, which is small; all others, to which no play leads, have places on the
    board on which each cell is a spot.
    """

    def __init__(self, picture, rows, aim):
        self.boards = (Board(picture, numbers_of(picture)), Board(picture, list(range(len(picture)))))
        self.ranks = ({}, {})
        self.aim = aim
        for standing, rank, pour in rows:
            self.ranks[1][standing] = rank
            drawn = self.boards[0].drawn(standing)
            if drawn is not None:
                self.ranks[0][drawn] = rank

    def place_of(self, standing):
        """Return the place of a standing of the picture."""
        drawn = self.boards[0].drawn(standing)
        return (1, standing) if drawn is None else (0, drawn)

    def behind(self, place, pour):
        """Return the place behind the pour."""
        return (place[0], self.boards[place[0]].behind(place[1], pour))

    def is_reached(self, place):
        """Return whether the aim holds at the place."""
        return self.boards[place[0]].meets(place[1], self.aim)

    def has_row(self, place):
        """Return whether the book has a row for the place."""
        return place[1] in self.ranks[place[0]]

    def has_less(self, place, rank):
        """Return whether the book has a row of a lesser rank for the place."""
        return self.has_row(place) and self.ranks[place[0]][place[1]] < rank


def book_fault(picture, mine, theirs, colours, aim, answer):
    """Return None if a Forced or Kept is right, else the first word that applies."""
    due = forced(picture, mine, theirs, colours, aim)
    if not isinstance(answer, (Forced, Kept)):
        return "answer"
    hands = _pours_of_hands(picture, mine, theirs, colours)
    hand = MINE if isinstance(answer, Forced) else THEIRS
    rows = answer.book.rows
    if not all([_is_row(picture, row, hands[hand], hand) for row in rows]):
        return "row"
    if len({row[0] for row in rows}) != len(rows):
        return "twice"
    shelf = Shelf(picture, rows, check_wish(picture, aim))
    if any([shelf.is_reached(shelf.place_of(row[0])) for row in rows]):
        return "aim"
    start = shelf.place_of(picture.colours)
    if isinstance(answer, Kept):
        return _keeping_word(shelf, start, rows, hands[MINE])
    word = _forcing_word(shelf, start, answer, hands[THEIRS])
    if word is None and isinstance(due, Forced) and due.rank < answer.rank:
        return "rank"
    return word


def _pours_of_hands(picture, mine, theirs, colours):
    my_marks, their_marks, tints = check_hands(picture, mine, theirs, colours)
    return all_pours(my_marks, tints), all_pours(their_marks, tints)


def _is_row(picture, row, pours, hand):
    if not isinstance(row, tuple) or len(row) != 3:
        return False
    standing, rank, pour = row
    is_rank = is_whole(rank, 1) if hand == MINE else rank is None
    return is_rank and is_standing(picture, standing) and is_pour_of(pours, pour)


def _forcing_word(shelf, start, answer, answers):
    rank = answer.rank
    if not is_whole(rank, 0) or shelf.is_reached(start) != (rank == 0):
        return "start"
    if rank > 0 and (shelf.has_less(start, rank) or not shelf.has_less(start, rank + 1)):
        return "start"
    for standing, own, pour in answer.book.rows:
        behind = shelf.behind(shelf.place_of(standing), pour)
        if shelf.is_reached(behind):
            continue
        for further in answers:
            place = shelf.behind(behind, further)
            if not shelf.is_reached(place) and not shelf.has_less(place, own):
                return "pour"
    return None


def _keeping_word(shelf, start, rows, answers):
    if shelf.is_reached(start) or _is_open(shelf, start, answers):
        return "start"
    for standing, rank, pour in rows:
        behind = shelf.behind(shelf.place_of(standing), pour)
        if shelf.is_reached(behind) or _is_open(shelf, behind, answers):
            return "pour"
    return None


def _is_open(shelf, place, answers):
    """Return whether an answer at the place leads to the aim or to a standing without a row."""
    for pour in answers:
        behind = shelf.behind(place, pour)
        if shelf.is_reached(behind) or not shelf.has_row(behind):
            return True
    return False


def play_hands(picture, mine, theirs, colours, aim, answer, choose, most=24):
    """Return what is Played if the answer's hand pours by its book and the other one what is chosen."""
    hands = _pours_of_hands(picture, mine, theirs, colours)
    checked = check_wish(picture, aim)
    if not is_whole(most, 0, MOST_TURNS):
        raise BadMost(most)
    booked = MINE if isinstance(answer, Forced) else THEIRS
    now = picture
    pours = []
    while len(pours) < most and not wish_holds(now, checked):
        hand = len(pours) & 1
        pour = answer.book.pour_for(now.colours) if hand == booked else choose(now)
        if hand != booked and not is_pour_of(hands[hand], pour):
            raise ForeignPour(len(pours))
        pours.append(tuple(pour))
        now = poured(now, pour)
    return Played(tuple(pours), now, wish_holds(now, checked))
