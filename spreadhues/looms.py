"""Looms: courses of several scripts from the same first colours, and which of them one picture has."""

from spreadhues.errors import TooMany
from spreadhues.fates import MOST_FATES, picture_of_web
from spreadhues.pictures import Picture
from spreadhues.seenrows import fit_rows
from spreadhues.strands import Strand, Web


def check_numbers(scripts):
    """Raise TooMany if the numbers of the colours that the scripts pour are together too great."""
    total = 0
    for colour in _colours_of(scripts):
        number = 1
        for script in scripts:
            number = number * (1 + len([pour for pour in script if pour[1] == colour]))
        total = total + number - 1
    if total > MOST_FATES:
        raise TooMany(MOST_FATES)


def _colours_of(scripts):
    return sorted({colour for script in scripts for mark, colour in script})


class Loom:
    """Strands told by their indices; whether one picture has some of them together is reckoned once."""

    def __init__(self, firsts, scripts):
        self.firsts = firsts
        self.colours = _colours_of(scripts)
        self.strands = []
        self.places = {}
        self.verdicts = {}

    def place_of(self, script, course, seen):
        """Return the index of the strand of the script along the course."""
        if (script, course) not in self.places:
            self.places[(script, course)] = len(self.strands)
            self.strands.append(Strand(script, course, seen, self.colours))
        return self.places[(script, course)]

    def fitting(self, sight):
        """Return the strands along the courses that fit the sight, in the order of the courses."""
        script, rows = sight
        return [self.place_of(script, course, rows) for course in fit_rows(self.firsts, script, rows)]

    def goes_with(self, row, place):
        """Return whether one picture has the strand together with all those of the row, which are had together."""
        for other in row:
            if not self.is_had((other, place)):
                return False
        return self.is_had(row + (place,))

    def is_had(self, row):
        """Return whether one picture has all strands of the row."""
        if row not in self.verdicts:
            self.verdicts[row] = len(row) == 1 or self._is_woven([self.strands[place] for place in row])
        return self.verdicts[row]

    def _is_woven(self, strands):
        starts = [strand.partings[0] for strand in strands]
        return starts.count(starts[0]) == len(starts) and Web(strands).lack() is None

    def first_row(self, choices):
        """Return the first row with one strand of each choice that one picture has, None if there is none."""
        for row in had_rows(self, choices):
            return row
        return None

    def picture_of(self, row):
        """Return a picture that has all strands of a row that is had together."""
        if not row:
            return Picture(self.firsts, [], list(range(len(self.firsts))))
        return picture_of_web(self.firsts, Web([self.strands[place] for place in row]))


def had_rows(loom, choices):
    """Yield all rows with one strand of each choice that one picture has; they ascend as the choices do."""
    waiting = [()]
    while waiting:
        row = waiting.pop()
        if len(row) == len(choices):
            yield row
        else:
            # the last one that waits is taken first
            for place in choices[len(row)][::-1]:
                if loom.goes_with(row, place):
                    waiting.append(row + (place,))
