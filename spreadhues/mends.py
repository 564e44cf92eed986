"""Mends: least picks of edits with which a goal holds, and spoilers, with which it does not hold any more."""

from spreadhues.colours import is_sequence, is_whole
from spreadhues.edits import check_edits_of, edit_both
from spreadhues.errors import BadGoal, BadWish, LongScript, NotHeld
from spreadhues.parts import all_parts
from spreadhues.running import came_at, run_script
from spreadhues.scripts import MOST_POURS, check_script
from spreadhues.wishes import check_wish, wish_holds


def check_goal(picture, goal):
    """Return the goal as a tuple, with the wish in it as a tuple, or raise BadGoal."""
    if not is_sequence(goal) or len(goal) == 0:
        raise BadGoal(goal)
    if goal[0] == "came by":
        if len(goal) != 3 or not is_whole(goal[1], 0, len(picture) - 1) or not is_whole(goal[2], 0, MOST_POURS):
            raise BadGoal(goal)
        return tuple(goal)
    if goal[0] == "not" and len(goal) == 2:
        return ("not", _checked_wish(picture, goal[1], goal))
    return _checked_wish(picture, goal, goal)


def _checked_wish(picture, wish, goal):
    try:
        return check_wish(picture, wish)
    except BadWish:
        raise BadGoal(goal) from None


def goal_holds(picture, script, goal):
    """Return whether the goal holds for the script on the picture."""
    pours = check_script(len(picture.marks), script)
    return _is_reached(picture, pours, check_goal(picture, goal))


def _is_reached(picture, pours, goal):
    if goal[0] == "came by":
        came = came_at(picture, pours)[goal[1]]
        return came is not None and came <= goal[2]
    behind = run_script(picture, pours).picture
    if goal[0] == "not":
        return not wish_holds(behind, goal[1])
    return wish_holds(behind, goal)


def _judged_picks(picture, script, goal, pool):
    """Return a dict: for each pick, by length, then ascending, whether the goal holds with its edits."""
    pours = check_script(len(picture.marks), script)
    checked = check_goal(picture, goal)
    edits = check_edits_of(picture, pours, pool, 1)
    many = len(pours) + len([edit for edit in edits if edit[0] == "put"])
    if many > MOST_POURS:
        raise LongScript(many)
    judged = {}
    for pick in all_parts(list(range(len(edits)))):
        behind, further = edit_both(picture, pours, [edits[index] for index in pick])
        judged[pick] = _is_reached(behind, further, checked)
    return judged


def _is_least(judged, pick):
    # the last part is the pick itself
    return judged[pick] and not any([judged[part] for part in all_parts(pick)[:-1]])


def _least_picks(judged):
    return tuple([pick for pick in judged if _is_least(judged, pick)])


def find_mends(picture, script, goal, pool):
    """Return all least picks of the pool for the goal, by length, then ascending."""
    return _least_picks(_judged_picks(picture, script, goal, pool))


def mends_fault(picture, script, goal, pool, told):
    """Return None if the thing is the result of find_mends, else the first word that applies."""
    judged = _judged_picks(picture, script, goal, pool)
    if not isinstance(told, tuple) or not all([_is_pick(len(pool), pick) for pick in told]):
        return "picks"
    if not all([judged[pick] for pick in told]):
        return "goal"
    if not all([_is_least(judged, pick) for pick in told]):
        return "least"
    due = _least_picks(judged)
    if not all([pick in told for pick in due]):
        return "lacking"
    return None if told == due else "order"


def _is_pick(many, thing):
    if not isinstance(thing, tuple) or not all([is_whole(index, 0, many - 1) for index in thing]):
        return False
    return list(thing) == sorted(set(thing))


def find_spoilers(picture, script, goal, pool):
    """Return all picks with which the goal does not hold while it holds with all their proper parts."""
    judged = _judged_picks(picture, script, goal, pool)
    if not judged[()]:
        raise NotHeld(goal)
    return tuple([
        pick
        for pick in judged
        if not judged[pick] and all([judged[part] for part in all_parts(pick)[:-1]])
    ])
