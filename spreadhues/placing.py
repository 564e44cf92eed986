"""Every picture in a whole picture: the place of each cell that comes."""

from spreadhues.fates import MOST_TOLD, upheld_fates
from spreadhues.looms import check_numbers
from spreadhues.patches import numbers_of
from spreadhues.running import came_at, course_of
from spreadhues.scripts import MOST_POURS, check_scripts


def placed_cells(picture, scripts):
    """Return for each cell its place in the whole picture of the scripts' courses, None if it never comes."""
    checked = check_scripts(len(picture.marks), scripts, MOST_TOLD, MOST_POURS)
    check_numbers(checked)
    firsts = [picture.colours[cell] for cell in picture.marks]
    fates = upheld_fates(firsts, [(script, course_of(picture, script)) for script in checked])
    numbers = numbers_of(picture)
    marked = [numbers[cell] for cell in picture.marks]
    came = [came_at(picture, script) for script in checked]
    places = []
    for cell, moments in enumerate(zip(*came)):
        if moments[0] == 0:
            places.append(marked.index(numbers[cell]))
        elif moments.count(None) == len(moments):
            places.append(None)
        else:
            places.append(len(firsts) + fates.index((picture.colours[cell], moments)))
    return tuple(places)
