"""Two hands that pour in turn: what the first one can force, and books that tell a hand what to pour."""

from spreadhues.boards import all_pours
from spreadhues.errors import BadHands, NoStanding, TooMany
from spreadhues.parts import all_parts, has_part
from spreadhues.scripts import MOST_MARKS
from spreadhues.standings import are_unlike_colours, are_unlike_marks, check_patches, same_standing
from spreadhues.wishes import check_wish

MOST_HAND_COLOURS = 3
MOST_HAND_PATCHES = 8
MOST_COUPLES = 2000
MINE = 0
THEIRS = 1


class Forced:
    """The aim surely holds within so many of my pours; the book tells what I pour."""

    def __init__(self, rank, book):
        self.rank = rank
        self.book = book

    def __eq__(self, other):
        return isinstance(other, Forced) and self.rank == other.rank and self.book == other.book


class Kept:
    """The aim is kept away for ever; the book tells what they pour."""

    def __init__(self, book):
        self.book = book

    def __eq__(self, other):
        return isinstance(other, Kept) and self.book == other.book


class Book:
    """Triples (standing, rank, pour) that tell one hand what to pour."""

    def __init__(self, rows):
        self.rows = rows

    def __eq__(self, other):
        return isinstance(other, Book) and self.rows == other.rows

    def pour_for(self, standing):
        """Return the pour of the first row with this standing or raise NoStanding."""
        for own, rank, pour in self.rows:
            if same_standing(own, standing):
                return pour
        raise NoStanding(standing)


def check_hands(picture, mine, theirs, colours):
    """Return the marks of both hands and the colours, all ascending, or raise BadHands."""
    if not are_unlike_marks(picture, mine, MOST_MARKS):
        raise BadHands("mine")
    if not are_unlike_marks(picture, theirs, MOST_MARKS):
        raise BadHands("theirs")
    if not are_unlike_colours(colours, MOST_HAND_COLOURS):
        raise BadHands("colours")
    return tuple(sorted(mine)), tuple(sorted(theirs)), tuple(sorted(colours))


class Play:
    """All couples (standing, hand) to which pours in turn lead on a board, and the ranks of the standings.

    A couple has the standings behind each pour of its hand, or None where the aim holds.
    """

    def __init__(self, board, pours, aim):
        self.board = board
        self.pours = pours
        self.led = _led_couples(board, pours, aim)
        self.ranks = _rank_all(self.led)

    def forced_rank(self):
        """Return the rank of the standing at the beginning, None if there is none."""
        return self.ranks.get(self.board.start)

    def to_pour(self, hand):
        """Return the standings in which the hand is to pour and the aim does not hold, ascending."""
        return sorted([couple[0] for couple, behinds in self.led.items() if couple[1] == hand and behinds is not None])

    def rank_behind(self, standing):
        """Return the greatest rank behind their pours, None if one of these leaves none; 0 where the aim holds."""
        answers = self.led[(standing, THEIRS)]
        ranks = [0] if answers is None else [self.ranks.get(answer) for answer in answers]
        return None if None in ranks else max(ranks)


def _led_couples(board, pours, aim):
    led = {}
    waiting = [(board.start, MINE)]
    while waiting:
        couple = waiting.pop()
        if couple in led:
            continue
        if len(led) == MOST_COUPLES:
            raise TooMany(MOST_COUPLES)
        standing, hand = couple
        led[couple] = None
        if not board.meets(standing, aim):
            led[couple] = [board.behind(standing, pour) for pour in pours[hand]]
            waiting.extend([(behind, THEIRS - hand) for behind in led[couple]])
    return led


def _rank_all(led):
    """Return the ranks of all standings in which I am to pour and that have one."""
    ranks = {couple[0]: 0 for couple, behinds in led.items() if couple[1] == MINE and behinds is None}
    open_couples = [couple for couple, behinds in led.items() if behinds is not None]
    rank = 0
    grown = True
    while grown:
        rank += 1
        # behind my pour the aim holds, or it surely does by the ranks that are known
        safe = {couple[0]: True for couple, behinds in led.items() if couple[1] == THEIRS and behinds is None}
        for couple in open_couples:
            if couple[1] == THEIRS and all([answer in ranks for answer in led[couple]]):
                safe[couple[0]] = True
        found = [
            couple[0]
            for couple in open_couples
            if couple[1] == MINE and couple[0] not in ranks and any([behind in safe for behind in led[couple]])
        ]
        for standing in found:
            ranks[standing] = rank
        grown = found != []
    return ranks


def _checked(picture, mine, theirs, colours, aim):
    """Return the board, the pours of both hands and the aim, all checked."""
    my_marks, their_marks, tints = check_hands(picture, mine, theirs, colours)
    checked = check_wish(picture, aim)
    board = check_patches(picture, MOST_HAND_PATCHES)
    return board, (all_pours(my_marks, tints), all_pours(their_marks, tints)), checked


def forced(picture, mine, theirs, colours, aim):
    """Return Forced if the first hand can force the aim from the beginning, else Kept."""
    board, pours, checked = _checked(picture, mine, theirs, colours, aim)
    play = Play(board, pours, checked)
    rank = play.forced_rank()
    if rank is None:
        return Kept(Book(_keeping_rows(play)))
    return Forced(rank, Book(_forcing_rows(play)))


def _forcing_rows(play):
    rows = []
    for standing in play.to_pour(MINE):
        rank = play.ranks.get(standing)
        if rank is not None:
            left = [play.rank_behind(behind) for behind in play.led[(standing, MINE)]]
            rows.append((play.board.cells_in(standing), rank, play.pours[MINE][left.index(rank - 1)]))
    return tuple(rows)


def _keeping_rows(play):
    rows = []
    for standing in play.to_pour(THEIRS):
        ranks = [play.ranks.get(behind) for behind in play.led[(standing, THEIRS)]]
        if None in ranks:
            rows.append((play.board.cells_in(standing), None, play.pours[THEIRS][ranks.index(None)]))
    return tuple(rows)


def least_hands(picture, mine, theirs, colours, aim):
    """Return all least parts of my marks with which the aim is forced, by length, then ascending."""
    board, pours, checked = _checked(picture, mine, theirs, colours, aim)
    if Play(board, pours, checked).forced_rank() is None:
        return ()
    least = []
    # the first part has no mark at all
    for part in all_parts(sorted(mine))[1:]:
        if has_part(part, least):
            continue
        own = [pour for pour in pours[MINE] if pour[0] in part]
        if Play(board, (own, pours[THEIRS]), checked).forced_rank() is not None:
            least.append(part)
    return tuple(least)
