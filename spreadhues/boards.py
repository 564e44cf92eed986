"""Boards: pictures with the cells of a patch drawn together to one spot, on which many pours are tried."""

from spreadhues.colours import is_couple, is_whole
from spreadhues.patches import patch_cells, patch_numbers, patch_ties
from spreadhues.pictures import near_lists
from spreadhues.wishes import holds_among


class Board:
    """The spots of a picture; a standing of the board has one colour for each spot."""

    def __init__(self, picture, numbers):
        self.numbers = numbers
        self.corners = [numbers.index(spot) for spot in range(max(numbers) + 1)]
        self.near = near_lists(len(self.corners), patch_ties(picture, numbers))
        self.marks = [numbers[cell] for cell in picture.marks]
        self.start = tuple([picture.colours[cell] for cell in self.corners])
        self.known = {}

    def behind(self, standing, pour):
        """Return the standing of the board behind the pour; each is reckoned once."""
        if (standing, pour) not in self.known:
            mark, colour = pour
            spots = patch_cells(self.near, standing, self.marks[mark])
            behind = list(standing)
            for spot in spots:
                behind[spot] = colour
            self.known[(standing, pour)] = tuple(behind)
        return self.known[(standing, pour)]

    def meets(self, standing, wish):
        """Return whether a checked wish for the picture holds in the standing of the board."""
        drawn = ("reached", self.numbers[wish[1]]) if wish[0] == "reached" else wish
        return holds_among(self.marks, standing, patch_numbers(self.near, standing), drawn)

    def cells_in(self, standing):
        """Return the colours of all cells of the picture.

        Spots are numbered by their least cells, so standings of the board ascend as their cells' colours do.
        """
        return tuple([standing[spot] for spot in self.numbers])

    def drawn(self, cells):
        """Return the standing in which the cells have these colours, None if a spot has unlike ones."""
        standing = tuple([cells[corner] for corner in self.corners])
        return standing if self.cells_in(standing) == cells else None


def all_pours(marks, colours):
    """Return all pours of the colours into the marks; they ascend if both do."""
    return [(mark, colour) for mark in marks for colour in colours]


def is_pour_of(pours, thing):
    """Return whether the thing is one of the pours; True and False are no marks and no colours."""
    return is_couple(thing) and is_whole(thing[0]) and is_whole(thing[1]) and tuple(thing) in pours
