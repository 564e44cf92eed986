"""Patches of a picture: cells of one colour that hang together."""

from spreadhues.colours import check_colour
from spreadhues.errors import NoDrawing
from spreadhues.pictures import Picture, check_cell, check_cells, near_lists, with_colours


def patch_numbers(near, colours):
    """Return for each cell the number of its patch; patches are numbered by their least cells."""
    numbers = [None for colour in colours]
    many = 0
    for start, colour in enumerate(colours):
        if numbers[start] is not None:
            continue
        numbers[start] = many
        waiting = [start]
        while waiting:
            cell = waiting.pop()
            for other in near[cell]:
                if numbers[other] is None and colours[other] == colour:
                    numbers[other] = many
                    waiting.append(other)
        many += 1
    return numbers


def patch_cells(near, colours, start):
    """Return the cells of the patch of the start, in the order in which they are found."""
    found = {start: True}
    waiting = [start]
    while waiting:
        cell = waiting.pop()
        for other in near[cell]:
            if colours[other] == colours[start] and other not in found:
                found[other] = True
                waiting.append(other)
    return list(found)


def numbers_of(picture):
    """Return for each cell of the picture the number of its patch."""
    return patch_numbers(near_lists(len(picture), picture.ties), picture.colours)


def patch_of(picture, cell):
    """Return the cells of the cell's patch, ascending."""
    check_cell(picture, cell)
    numbers = numbers_of(picture)
    return tuple([other for other, number in enumerate(numbers) if number == numbers[cell]])


def patches_of(picture):
    """Return all patches, ordered by their least cells."""
    numbers = numbers_of(picture)
    patches = [[] for number in range(max(numbers) + 1)]
    for cell, number in enumerate(numbers):
        patches[number].append(cell)
    return tuple([tuple(patch) for patch in patches])


def is_one_patch(picture):
    """Return whether all cells lie in one patch."""
    return max(numbers_of(picture)) == 0


def coloured(picture, cells, colour):
    """Return the picture in which all the cells have the colour."""
    chosen = check_cells(picture, cells)
    check_colour(colour)
    colours = list(picture.colours)
    for cell in chosen:
        colours[cell] = colour
    return with_colours(picture, colours)


def distances_of(picture, cells):
    """Return for each cell the least number of further patches on a way to it, None without a way."""
    chosen = check_cells(picture, cells)
    numbers = numbers_of(picture)
    near = near_lists(max(numbers) + 1, patch_ties(picture, numbers))
    reached = [None for patch in near]
    edge = sorted({numbers[cell] for cell in chosen})
    distance = 0
    while edge:
        for patch in edge:
            reached[patch] = distance
        beyond = sorted({other for patch in edge for other in near[patch]})
        edge = [patch for patch in beyond if reached[patch] is None]
        distance += 1
    return tuple([reached[number] for number in numbers])


def patch_ties(picture, numbers):
    """Return the couples (less, greater) of patches that are tied, ascending."""
    couples = [(numbers[one], numbers[other]) for one, other in picture.ties]
    return sorted({(min(couple), max(couple)) for couple in couples if couple[0] != couple[1]})


def drawn_together(picture):
    """Return the picture with one cell for each patch."""
    numbers = numbers_of(picture)
    marks = [numbers[cell] for cell in picture.marks]
    for mark, patch in enumerate(marks):
        if patch in marks[:mark]:
            raise NoDrawing(mark)
    colours = [picture.colours[numbers.index(patch)] for patch in range(max(numbers) + 1)]
    return Picture(colours, patch_ties(picture, numbers), marks)
