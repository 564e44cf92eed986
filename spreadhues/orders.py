"""Orders of a script: neighbouring pours of one colour change places."""

from spreadhues.pictures import Picture
from spreadhues.scripts import check_pour, check_script
from spreadhues.scriptsalike import PartingPicture


def change_places(marks, one, other):
    """Return None if two pours do the same in either order, else a PartingPicture."""
    mark, colour = check_pour(marks, one)
    other_mark, other_colour = check_pour(marks, other)
    if colour == other_colour:
        return None
    # where the two marks are one, the last pour alone counts
    ties = [] if mark == other_mark else [(mark, other_mark)]
    return PartingPicture(Picture([0 for own in range(marks)], ties, list(range(marks))), mark)


def stretches_of(pours):
    """Return the stretches of pours of one colour, none of which can be made longer, in their order."""
    stretches = []
    for pour in pours:
        if stretches and stretches[-1][0][1] == pour[1]:
            stretches[-1].append(pour)
        else:
            stretches.append([pour])
    return stretches


def first_order(marks, script):
    """Return the least order of the script."""
    return tuple([pour for stretch in stretches_of(check_script(marks, script)) for pour in sorted(stretch)])


def are_orders(marks, one, other):
    """Return whether the other script is an order of the one."""
    return first_order(marks, one) == first_order(marks, other)


def count_orders(marks, script):
    """Return how many unlike orders the script has."""
    many = 1
    for stretch in stretches_of(check_script(marks, script)):
        # each stretch counts as a row of marks does: its length's factorial over those of its equal pours
        for at, pour in enumerate(stretch):
            many = many * (at + 1) // stretch[:at + 1].count(pour)
    return many
