"""All errors of the package: each stands directly under HueError and bears what it tells as attributes."""


class HueError(ValueError):
    """The one error class under which all others stand."""


class BadColour(HueError):
    def __init__(self, colour):
        HueError.__init__(self, "this is no colour from 0 to 99")
        self.colour = colour


class BadColours(HueError):
    def __init__(self, index):
        HueError.__init__(self, f"entry {index} is no colour of a set of at most 20")
        self.index = index


class BadRow(HueError):
    def __init__(self, index):
        HueError.__init__(self, f"entry {index} is no colour of a row that is short enough")
        self.index = index


class BadPicture(HueError):
    def __init__(self, index, what):
        HueError.__init__(self, f"no picture: {what} at {index}")
        self.index = index
        self.what = what


class NoCell(HueError):
    def __init__(self, cell):
        HueError.__init__(self, "this is no cell of the picture")
        self.cell = cell


class NoMark(HueError):
    def __init__(self, mark):
        HueError.__init__(self, "this is no mark's number")
        self.mark = mark


class NoDrawing(HueError):
    def __init__(self, mark):
        HueError.__init__(self, f"mark {mark} lies in the patch of an earlier one")
        self.mark = mark


class BadNaming(HueError):
    def __init__(self, index):
        HueError.__init__(self, f"couple {index} names no colours anew, or two as one")
        self.index = index


class BadOrder(HueError):
    def __init__(self, order):
        HueError.__init__(self, "this is no order of the marks")
        self.order = order


class BadSquares(HueError):
    def __init__(self, index, what):
        HueError.__init__(self, f"no squares: {what} at {index}")
        self.index = index
        self.what = what


class BadText(HueError):
    def __init__(self, row):
        HueError.__init__(self, f"row or word {row} of the text is not of the form")
        self.row = row


class TooMany(HueError):
    def __init__(self, most):
        HueError.__init__(self, f"there are more than {most}")
        self.most = most


class BadMarks(HueError):
    def __init__(self, marks):
        HueError.__init__(self, "this is no number of marks from 1 to 4")
        self.marks = marks


class BadPour(HueError):
    def __init__(self, what):
        HueError.__init__(self, f"no pour: {what}")
        self.what = what


class BadScript(HueError):
    def __init__(self, index, what):
        HueError.__init__(self, f"no script: {what} at {index}")
        self.index = index
        self.what = what


class BadFirsts(HueError):
    def __init__(self, index):
        HueError.__init__(self, f"entry {index} is no first colour of a mark")
        self.index = index


class BadParting(HueError):
    def __init__(self, parting):
        HueError.__init__(self, "this is no parting of the marks")
        self.parting = parting


class BadCourse(HueError):
    def __init__(self, moment, what):
        HueError.__init__(self, f"no course of the script: {what} at moment {moment}")
        self.moment = moment
        self.what = what


class MarkCell(HueError):
    def __init__(self, mark):
        HueError.__init__(self, f"the cell is that of mark {mark}")
        self.mark = mark


class BadRows(HueError):
    def __init__(self, index):
        HueError.__init__(self, f"entry {index} is no row of a sequence that is short enough")
        self.index = index


class BadCount(HueError):
    def __init__(self, what):
        HueError.__init__(self, f"no count from least to most: {what}")
        self.what = what


class NotJoined(HueError):
    def __init__(self, cell):
        HueError.__init__(self, f"no way leads to cell {cell}")
        self.cell = cell


class BadShown(HueError):
    def __init__(self, shown):
        HueError.__init__(self, "no row leaves the tree in these colours")
        self.shown = shown


class BarredMark(HueError):
    def __init__(self, mark):
        HueError.__init__(self, f"the cell of mark {mark} has a barred colour")
        self.mark = mark


class NotSeparate(HueError):
    def __init__(self, cell):
        HueError.__init__(self, f"the island of cell {cell} has three or more lots at it")
        self.cell = cell


class BadTable(HueError):
    def __init__(self, index, what):
        HueError.__init__(self, f"no table: {what} at {index}")
        self.index = index
        self.what = what


class OtherMarks(HueError):
    def __init__(self, one, other):
        HueError.__init__(self, f"the pictures have {one} and {other} marks")
        self.one = one
        self.other = other


class BadBundle(HueError):
    def __init__(self, index, what):
        HueError.__init__(self, f"no bundle: {what} at {index}")
        self.index = index
        self.what = what


class WallUsed(HueError):
    def __init__(self, wall):
        HueError.__init__(self, f"the wall's colour {wall} is used already")
        self.wall = wall


class NoRoom(HueError):
    def __init__(self, squares):
        HueError.__init__(self, f"there is no room for {squares} squares")
        self.squares = squares


class BadTold(HueError):
    def __init__(self, index, what):
        HueError.__init__(self, f"no told courses: {what} at {index}")
        self.index = index
        self.what = what


class BadFate(HueError):
    def __init__(self, thing):
        HueError.__init__(self, "this is no mark's number and no fate")
        self.thing = thing


class BadFact(HueError):
    def __init__(self, fact):
        HueError.__init__(self, "this is no fact")
        self.fact = fact


class BadMoment(HueError):
    def __init__(self, moment):
        HueError.__init__(self, "this is no moment of the script")
        self.moment = moment


class BadWish(HueError):
    def __init__(self, wish):
        HueError.__init__(self, "this is no wish")
        self.wish = wish


class BadChoice(HueError):
    def __init__(self, what):
        HueError.__init__(self, f"no choice: {what}")
        self.what = what


class NoStanding(HueError):
    def __init__(self, standing):
        HueError.__init__(self, "no row has this standing")
        self.standing = standing


class BadSight(HueError):
    def __init__(self, index, what):
        HueError.__init__(self, f"no sight: {what} at {index}")
        self.index = index
        self.what = what


class BadScripts(HueError):
    def __init__(self, index):
        HueError.__init__(self, f"entry {index} is no script of a sequence that is short enough")
        self.index = index


class NoPicture(HueError):
    def __init__(self, index):
        HueError.__init__(self, f"no picture shows the sights up to {index}")
        self.index = index


class BadHands(HueError):
    def __init__(self, what):
        HueError.__init__(self, f"no hands: {what}")
        self.what = what


class BadMost(HueError):
    def __init__(self, most):
        HueError.__init__(self, "this is no greatest number of pours")
        self.most = most


class ForeignPour(HueError):
    def __init__(self, turn):
        HueError.__init__(self, f"the pour in turn {turn} is none of its hand")
        self.turn = turn


class NoPour(HueError):
    def __init__(self, index):
        HueError.__init__(self, "there is no pour of this index")
        self.index = index


class BadTimes(HueError):
    def __init__(self, times):
        HueError.__init__(self, "this is no number of rounds")
        self.times = times


class BadEdits(HueError):
    def __init__(self, index, what):
        HueError.__init__(self, f"no edits: {what} at {index}")
        self.index = index
        self.what = what


class LongScript(HueError):
    def __init__(self, pours):
        HueError.__init__(self, f"{pours} pours are more than a script may have")
        self.pours = pours


class BadGoal(HueError):
    def __init__(self, goal):
        HueError.__init__(self, "this is no goal")
        self.goal = goal


class NotHeld(HueError):
    def __init__(self, goal):
        HueError.__init__(self, "the goal does not hold without edits")
        self.goal = goal


class NothingLeft(HueError):
    def __init__(self, many):
        HueError.__init__(self, "so many pours are not left to be taken back")
        self.many = many


class StillTrial(HueError):
    def __init__(self, pours):
        HueError.__init__(self, f"a trial is still going on behind {pours} pours")
        self.pours = pours
