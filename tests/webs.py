"""Fates, ties, strikes and whole pictures, told by the words of [6.3] to [6.5], without a line of the package's own."""

import itertools


def seen_rows(firsts, script, course):
    rows = [tuple(firsts)]
    for (mark, colour), parting in zip(script, course[1:]):
        rows.append(tuple(colour if parting[k] == parting[mark] else own for k, own in enumerate(rows[-1])))
    return rows


def order(fate):
    colour, came = fate
    return colour, [(moment is None, moment or 0) for moment in came]


def naive_fates(firsts, told):
    fates = []
    for colour in range(100):
        choices = []
        for script, course in told:
            rows = seen_rows(firsts, script, course)
            choices.append([t + 1 for t, (mark, a) in enumerate(script) if a == colour and rows[t][mark] != colour] + [None])
        fates.extend((colour, came) for came in itertools.product(*choices) if set(came) != {None})
    return sorted(fates, key=order)


def naive_shows(firsts, told, thing):
    shows = []
    for index, (script, course) in enumerate(told):
        rows = seen_rows(firsts, script, course)

        def of_mark(mark, moment):
            return rows[moment][mark], course[moment][mark]

        if isinstance(thing, int):
            shows.append(tuple(of_mark(thing, t) for t in range(len(course))))
        else:
            colour, came = thing
            at = len(course) if came[index] is None else came[index]
            shows.append(tuple((colour, None) if t < at else of_mark(script[at - 1][0], t) for t in range(len(course))))
    return tuple(shows)


def naive_may_tie(firsts, told, one, other):
    for left, right in zip(naive_shows(firsts, told, one), naive_shows(firsts, told, other)):
        for mine, yours in zip(left, right):
            if mine[0] == yours[0] and (mine[1] != yours[1] or mine[1] is None):
                return False
    return True


def naive_strikes(firsts, told):
    """The fates struck in each turn, and those that are left."""
    left = naive_fates(firsts, told)
    marks = list(range(len(firsts)))
    shows = {thing: naive_shows(firsts, told, thing) for thing in marks + left}
    tied = {(a, b): naive_may_tie(firsts, told, a, b) for a in marks + left for b in left}
    turns = []
    while True:
        struck = []
        for fate in left:
            for index, (script, course) in enumerate(told):
                moment = fate[1][index]
                if moment is None:
                    continue
                lot = course[moment - 1][script[moment - 1][0]]
                if not any(shows[x][index][moment - 1][1] == lot and tied[x, fate] for x in marks + left):
                    struck.append(fate)
                    break
        if not struck:
            return tuple(turns), tuple(left)
        turns.append(tuple(struck))
        left = [fate for fate in left if fate not in struck]


def naive_whole(firsts, told):
    """The colours, ties and marks of the whole picture, and its things."""
    marks = list(range(len(firsts)))
    things = marks + list(naive_strikes(firsts, told)[1])
    colours = tuple(firsts) + tuple(fate[0] for fate in things[len(marks):])
    ties = tuple(
        (a, b) for a, b in itertools.combinations(range(len(things)), 2)
        if naive_may_tie(firsts, told, things[a], things[b])
    )
    return (colours, ties, tuple(marks)), things


def naive_lack(firsts, told):
    """The first (index, moment) of a joining that lacks a tie, None if none lacks."""
    things = naive_whole(firsts, told)[1]
    shows = {thing: naive_shows(firsts, told, thing) for thing in things}
    for index, (script, course) in enumerate(told):
        for moment in range(1, len(course)):
            before, behind, mark = course[moment - 1], course[moment], script[moment - 1][0]
            for lot in sorted(set(before)):
                if lot == before[mark] or behind[lot] != behind[mark]:
                    continue
                if not any(
                    shows[x][index][moment - 1][1] == lot and shows[y][index][moment - 1][1] == before[mark]
                    and naive_may_tie(firsts, told, x, y)
                    for x in things for y in things
                ):
                    return index, moment
    return None


def naive_partings(marks):
    """All partings of so many marks."""
    for parting in itertools.product(range(marks), repeat=marks):
        if all(lead <= k and parting[lead] == lead for k, lead in enumerate(parting)):
            yield parting


def follows(before, shown, pour, behind):
    """Whether the rule of [2.6] lets a pour lead from one parting, with these colours, to another."""
    mark, colour = pour
    marks = range(len(before))
    if shown[mark] == colour:
        return before == behind
    for k in marks:
        for j in marks:
            was, now = before[k] == before[j], behind[k] == behind[j]
            if was and not now:
                return False
            if now and not was and behind[k] != behind[mark]:
                return False
        if behind[k] == behind[mark] and before[k] != before[mark] and shown[k] != colour:
            return False
    return True


def naive_courses(firsts, script):
    """All courses that follow the rule, ascending."""
    partings = list(naive_partings(len(firsts)))
    begun = [(p,) for p in partings if all(firsts[k] == firsts[lead] for k, lead in enumerate(p))]
    for t, pour in enumerate(script):
        begun = [
            (*course, p) for course in begun for p in partings
            if follows(course[-1], seen_rows(firsts, script[:t], course)[-1], pour, p)
        ]
    return begun


def naive_readings(firsts, sights):
    """All readings of the sights, ascending: fitting courses that are had together."""
    fitting = [
        [course for course in naive_courses(firsts, script) if tuple(seen_rows(firsts, script, course)) == rows]
        for script, rows in sights
    ]
    scripts = [script for script, _ in sights]
    for reading in itertools.product(*fitting):
        if len({course[0] for course in reading}) <= 1:
            if not reading or naive_lack(firsts, tuple(zip(scripts, reading))) is None:
                yield reading


def naive_shown(firsts, sights):
    """Whether some picture shows all the sights."""
    return next(naive_readings(firsts, sights), None) is not None


def naive_possible(firsts, sights, script):
    """All rows that the script shows on pictures that show the sights, ascending."""
    rows = {tuple(seen_rows(firsts, script, course)) for course in naive_courses(firsts, script)}
    return tuple(row for row in sorted(rows) if naive_shown(firsts, (*sights, (script, row))))
