"""Strands, scripts that are run along told courses, and webs of what may lie about the marks on several of them.

A part of a thing is what the thing shows along one strand: (-1, mark) for a mark, (colour, came) for a fate.
Sets of things are kept as numbers, the bit of each thing that belongs to the set is 1.
"""

from spreadhues.lots import lots_of

OF_MARK = -1


class Strand:
    """A script along one of its courses: what the marks, and cells of the told colours, may show."""

    def __init__(self, pours, course, seen, colours):
        self.pours = pours
        self.partings = course
        self.moments = {colour: _moments_for(pours, seen, colour) for colour in colours}
        self.shows = _shows(pours, course, seen, self.moments)
        self.near = {
            part: [other for other, row in self.shows.items() if _may_touch(own, row)]
            for part, own in self.shows.items()
        }

    def lying(self, moment, lead):
        """Return the parts that lie in the lot of the lead at the moment."""
        return [part for part, row in self.shows.items() if row[moment][1] == lead]

    def taking(self, moment):
        """Return the parts that lie, ahead of the pour of the moment, in the lot into which it goes."""
        return self.lying(moment - 1, self.partings[moment - 1][self.pours[moment - 1][0]])

    def joinings(self):
        """Return the couples (moment, lead) of all lots that join the lot of a pour's mark at a moment."""
        found = []
        for moment in range(1, len(self.partings)):
            before = self.partings[moment - 1]
            behind = self.partings[moment]
            mark = self.pours[moment - 1][0]
            for lot in lots_of(before):
                if behind[lot[0]] == behind[mark] and before[mark] != lot[0]:
                    found.append((moment, lot[0]))
        return found


def _moments_for(pours, seen, colour):
    """Return the moments at which a cell of the colour may come: at pours of the colour that are not idle."""
    return [
        index + 1
        for index, pour in enumerate(pours)
        if pour[1] == colour and seen[index][pour[0]] != colour
    ]


def _shows(pours, course, seen, moments):
    """Return for each part what it shows: for each moment its colour and its lot, None outside of all lots."""
    many = len(course)
    shows = {}
    for mark in range(len(course[0])):
        shows[(OF_MARK, mark)] = [(seen[moment][mark], course[moment][mark]) for moment in range(many)]
    for colour in moments:
        outside = [(colour, None) for _ in range(many)]
        for moment in moments[colour]:
            taken = shows[(OF_MARK, pours[moment - 1][0])]
            shows[(colour, moment)] = outside[:moment] + taken[moment:]
        shows[(colour, None)] = outside
    return shows


def _may_touch(one, other):
    """Return whether two parts may be tied: wherever they show one colour, they lie in one lot."""
    for mine, yours in zip(one, other):
        if mine[0] == yours[0] and (mine[1] is None or mine[1] != yours[1]):
            return False
    return True


def count_fates(strands):
    """Return the number of the fates along the strands."""
    total = 0
    for colour in strands[0].moments:
        many = 1
        for strand in strands:
            many = many * (len(strand.moments[colour]) + 1)
        total = total + many - 1
    return total


def list_fates(strands):
    """Return the fates (colour, came) along the strands, ascending."""
    fates = []
    for colour in sorted(strands[0].moments):
        rows = [()]
        for strand in strands:
            rows = [row + (moment,) for row in rows for moment in strand.moments[colour] + [None]]
        # the last row has None alone
        fates.extend([(colour, row) for row in rows[:-1]])
    return fates


class Web:
    """The marks and all fates along the strands, which of them may be tied, and which fates are upheld."""

    def __init__(self, strands):
        self.strands = strands
        self.marks = len(strands[0].partings[0])
        self.things = list(range(self.marks)) + list_fates(strands)
        self.groups = [_groups(self.things, at, strand) for at, strand in enumerate(strands)]
        self.ties = _tie_sets(self.things, strands, self.groups)
        self.turns = []
        self.left = _whole_set(self.things)
        _strike_all(self)

    def upheld(self):
        """Return the indices of the marks and the upheld fates, ascending."""
        return in_set(self.left, len(self.things))

    def lack(self):
        """Return the first (index, moment) of a joining for which no tie stands, None if none lacks."""
        for at, strand in enumerate(self.strands):
            for moment, lead in strand.joinings():
                if not self._is_joined(at, moment, lead):
                    return (at, moment)
        return None

    def _is_joined(self, at, moment, lead):
        strand = self.strands[at]
        joining = _united(self.groups[at], strand.lying(moment - 1, lead)) & self.left
        taking = _united(self.groups[at], strand.taking(moment)) & self.left
        return any([self.ties[index] & taking != 0 for index in in_set(joining, len(self.things))])

    def ends_unlike(self, index):
        """Return whether the thing shows unlike colours at the ends of the strands."""
        ends = [strand.shows[part_of(self.things[index], at)][-1][0] for at, strand in enumerate(self.strands)]
        return min(ends) != max(ends)


def part_of(thing, at):
    """Return the part of a mark or of a fate along the strand of this index."""
    if isinstance(thing, tuple):
        return (thing[0], thing[1][at])
    return (OF_MARK, thing)


def in_set(things, many):
    """Return the indices of the things that belong to the set, ascending."""
    return [index for index in range(many) if (things >> index) & 1 == 1]


def _whole_set(things):
    return (1 << len(things)) - 1


def _groups(things, at, strand):
    """Return for each part of the strand the set of the things that have it."""
    groups = {part: 0 for part in strand.shows}
    for index, thing in enumerate(things):
        part = part_of(thing, at)
        groups[part] = groups[part] | (1 << index)
    return groups


def _united(groups, parts):
    united = 0
    for part in parts:
        united = united | groups[part]
    return united


def _tie_sets(things, strands, groups):
    """Return for each thing the set of those to which it may be tied along all strands."""
    ties = [_whole_set(things) for thing in things]
    for at, strand in enumerate(strands):
        near = {part: _united(groups[at], parts) for part, parts in strand.near.items()}
        ties = [tied & near[part_of(thing, at)] for tied, thing in zip(ties, things)]
    return ties


def _strike_all(web):
    """Strike, all at once, the fates that nothing left upholds, and again, until none is struck."""
    takers = [
        {
            moment: _united(web.groups[at], strand.taking(moment))
            for moments in strand.moments.values()
            for moment in moments
        }
        for at, strand in enumerate(web.strands)
    ]
    struck = _not_upheld(web, takers)
    while struck:
        web.turns.append(struck)
        web.left = web.left & ~struck
        struck = _not_upheld(web, takers)


def _not_upheld(web, takers):
    struck = 0
    for index in in_set(web.left, len(web.things)):
        if index < web.marks:
            continue
        reach = web.ties[index] & web.left
        for at, moment in enumerate(web.things[index][1]):
            if moment is not None and reach & takers[at][moment] == 0:
                struck = struck | (1 << index)
    return struck
