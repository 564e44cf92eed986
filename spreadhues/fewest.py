"""The fewest pours of a choice behind which a wish holds."""

from spreadhues.boards import all_pours, is_pour_of
from spreadhues.colours import is_sequence, is_whole
from spreadhues.errors import NoStanding
from spreadhues.standings import MOST_PATCHES, check_choice, check_patches, is_standing
from spreadhues.standings import led_standings, same_standing, shown_ascending
from spreadhues.wishes import check_wish


class Fewest:
    """The fewest number of pours, and the first script of so many that reaches the wish."""

    def __init__(self, number, script):
        self.number = number
        self.script = script

    def __eq__(self, other):
        return isinstance(other, Fewest) and self.number == other.number and self.script == other.script


class NeverSo:
    """All standings to which the choice leads: the wish holds in none of them."""

    def __init__(self, standings):
        self.standings = standings

    def __eq__(self, other):
        return isinstance(other, NeverSo) and self.standings == other.standings


class Ranks:
    """Couples (standing, rank): the fewest number of pours from each standing, None if there is none."""

    def __init__(self, rows):
        self.rows = rows

    def __iter__(self):
        return iter(self.rows)

    def __eq__(self, other):
        return isinstance(other, Ranks) and self.rows == other.rows

    def rank_of(self, standing):
        """Return the rank in the first row with this standing or raise NoStanding."""
        for own, rank in self.rows:
            if same_standing(own, standing):
                return rank
        raise NoStanding(standing)


class Search:
    """All standings of a board to which the pours of a choice lead, and their ranks for a wish."""

    def __init__(self, board, pours, wish):
        self.board = board
        self.pours = pours
        self.led = led_standings(board, pours)
        self.ranks = _rank_all(self.led, [standing for standing in self.led if board.meets(standing, wish)])

    def nearer(self, standing):
        """Return the couples (pour, standing behind it) that lessen the rank, ascending."""
        rank = self.ranks[standing]
        return [
            (pour, behind)
            for pour, behind in zip(self.pours, self.led[standing])
            if rank is not None and self.ranks[behind] == rank - 1
        ]


def _rank_all(led, goals):
    """Return for each led standing the fewest number of pours to one of the goals, None if there is none."""
    ahead = {standing: [] for standing in led}
    for standing, behinds in led.items():
        for behind in behinds:
            ahead[behind].append(standing)
    ranks = {standing: None for standing in led}
    edge = goals
    rank = 0
    while edge:
        for standing in edge:
            ranks[standing] = rank
        further = {other: True for standing in edge for other in ahead[standing] if ranks[other] is None}
        edge = list(further)
        rank += 1
    return ranks


def _searched(picture, chosen, colours, wish):
    marks, tints = check_choice(picture, chosen, colours)
    checked = check_wish(picture, wish)
    return Search(check_patches(picture, MOST_PATCHES), all_pours(marks, tints), checked)


def fewest_pours(picture, chosen, colours, wish):
    """Return Fewest with the first of the shortest scripts that reach the wish, or NeverSo."""
    search = _searched(picture, chosen, colours, wish)
    number = search.ranks[search.board.start]
    if number is None:
        return NeverSo(shown_ascending(search.board, search.led))
    return Fewest(number, _first_script(search))


def _first_script(search):
    script = []
    nearer = search.nearer(search.board.start)
    while nearer:
        pour, behind = nearer[0]
        script.append(pour)
        nearer = search.nearer(behind)
    return tuple(script)


def fewest_scripts(picture, chosen, colours, wish):
    """Yield all scripts of the fewest number that reach the wish, ascending."""
    search = _searched(picture, chosen, colours, wish)
    waiting = [((), search.board.start)]
    while waiting:
        script, standing = waiting.pop()
        if search.ranks[standing] == 0:
            yield script
        # the last one that waits is taken first, so the scripts come in ascending order
        for pour, behind in search.nearer(standing)[::-1]:
            waiting.append((script + (pour,), behind))


def count_fewest(picture, chosen, colours, wish):
    """Return how many scripts of the fewest number reach the wish."""
    search = _searched(picture, chosen, colours, wish)
    if search.ranks[search.board.start] is None:
        return 0
    begun = {search.board.start: 1}
    for _ in range(search.ranks[search.board.start]):
        begun = _counts_behind(search, begun)
    return sum(begun.values())


def _counts_behind(search, counts):
    """Return how many scripts lead to each standing one pour nearer, given how many lead to those before."""
    behinds = {}
    for standing, many in counts.items():
        for pour, behind in search.nearer(standing):
            behinds[behind] = behinds.get(behind, 0) + many
    return behinds


def ranks_of(picture, chosen, colours, wish):
    """Return the Ranks of all standings to which the choice leads."""
    search = _searched(picture, chosen, colours, wish)
    return Ranks(tuple([(search.board.cells_in(standing), search.ranks[standing]) for standing in sorted(search.led)]))


def fewest_fault(picture, chosen, colours, wish, answer):
    """Return None if the result of fewest_pours is right, else the first word that applies."""
    search = _searched(picture, chosen, colours, wish)
    if isinstance(answer, Fewest):
        return _script_word(search, answer)
    if isinstance(answer, NeverSo):
        return _standings_word(picture, search, answer.standings)
    return "answer"


def _script_word(search, answer):
    script = answer.script
    if not is_sequence(script) or not all([is_pour_of(search.pours, pour) for pour in script]):
        return "script"
    if not is_whole(answer.number) or answer.number != len(script):
        return "number"
    standing = search.board.start
    for mark, colour in script:
        standing = search.board.behind(standing, (mark, colour))
    if search.ranks[standing] != 0:
        return "wish"
    if search.ranks[search.board.start] < len(script):
        return "fewer"
    return None if tuple(script) == _first_script(search) else "order"


def _standings_word(picture, search, standings):
    due = shown_ascending(search.board, search.led)
    if not isinstance(standings, tuple) or not all([is_standing(picture, standing) for standing in standings]):
        return "standings"
    if standings != due:
        return "standings"
    return None if search.ranks[search.board.start] is None else "wish"
