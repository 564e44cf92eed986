"""Runs of scripts on pictures: what the marks show, when cells come, which pours are idle."""

from spreadhues.patches import numbers_of, patch_numbers
from spreadhues.pictures import near_lists, with_colours
from spreadhues.scripts import check_pour, check_script


class Run:
    """What a script does: the picture behind it, and a couple (parting, colours) for each moment."""

    def __init__(self, picture, moments):
        self.picture = picture
        self.moments = moments

    @property
    def course(self):
        return tuple([moment[0] for moment in self.moments])

    @property
    def seen(self):
        return tuple([moment[1] for moment in self.moments])

    def __len__(self):
        return len(self.moments)

    def __iter__(self):
        return iter(self.moments)

    def __eq__(self, other):
        return isinstance(other, Run) and self.picture == other.picture and self.moments == other.moments


def parting_of(picture):
    """Return the parting of the marks."""
    return _parting(picture.marks, numbers_of(picture))


def _parting(marks, numbers):
    patches = [numbers[cell] for cell in marks]
    return tuple([patches.index(patch) for patch in patches])


def poured(picture, pour):
    """Return the picture behind the pour."""
    mark, colour = check_pour(len(picture.marks), pour)
    numbers = numbers_of(picture)
    return with_colours(picture, _colours_behind(picture.colours, numbers, picture.marks[mark], colour))


def _colours_behind(colours, numbers, cell, colour):
    patch = numbers[cell]
    return [colour if numbers[other] == patch else own for other, own in enumerate(colours)]


def _stages(picture, pours):
    """Return for each moment the colours of all cells and the numbers of their patches."""
    near = near_lists(len(picture), picture.ties)
    colours = list(picture.colours)
    numbers = patch_numbers(near, colours)
    stages = [(colours, numbers)]
    for mark, colour in pours:
        colours = _colours_behind(colours, numbers, picture.marks[mark], colour)
        numbers = patch_numbers(near, colours)
        stages.append((colours, numbers))
    return stages


def run_script(picture, script):
    """Return the Run of the script on the picture."""
    stages = _stages(picture, check_script(len(picture.marks), script))
    marks = picture.marks
    moments = [(_parting(marks, numbers), tuple([colours[cell] for cell in marks])) for colours, numbers in stages]
    return Run(with_colours(picture, stages[-1][0]), tuple(moments))


def course_of(picture, script):
    """Return the partings at all moments."""
    return run_script(picture, script).course


def marks_seen(picture, script):
    """Return the colours of the marks' cells at all moments."""
    return run_script(picture, script).seen


def came_at(picture, script):
    """Return for each cell the first moment at which it lies in the patch of a mark, None if it never does."""
    stages = _stages(picture, check_script(len(picture.marks), script))
    came = [None for colour in picture.colours]
    for moment, (colours, numbers) in enumerate(stages):
        taken = [numbers[cell] for cell in picture.marks]
        for cell, number in enumerate(numbers):
            if came[cell] is None and number in taken:
                came[cell] = moment
    return tuple(came)


def idle_pours(picture, script):
    """Return the indices of the pours of the colour that the mark's patch has already, ascending."""
    pours = check_script(len(picture.marks), script)
    stages = _stages(picture, pours)
    idle = []
    for index, (mark, colour) in enumerate(pours):
        if stages[index][0][picture.marks[mark]] == colour:
            idle.append(index)
    return tuple(idle)


def struck_idle(picture, script):
    """Return the script without its idle pours."""
    pours = check_script(len(picture.marks), script)
    idle = idle_pours(picture, pours)
    return tuple([pour for index, pour in enumerate(pours) if index not in idle])
