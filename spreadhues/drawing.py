"""Drawings on squares, judged, and drawings that show what a picture shows."""

from spreadhues.bars import bars_size, check_drawable, drawn_bars
from spreadhues.bundles import bundle_of_table, table_of_bundle
from spreadhues.colours import check_colour
from spreadhues.errors import WallUsed
from spreadhues.islands import check_separate, is_separate
from spreadhues.running import parting_of
from spreadhues.squares import picture_of_squares
from spreadhues.tables import table_of


def drawing_fault(squares, bundle, wall):
    """Return None if the squares are a drawing of the bundle, else the first word that applies."""
    check_drawable(bundle, wall)
    if len(squares.places) != len(bundle.firsts):
        return "marks"
    if tuple([squares.levels[level][column] for level, column in squares.places]) != bundle.firsts:
        return "colour"
    levels, columns = bars_size(bundle)
    if len(squares.levels) > levels or len(squares.levels[0]) > columns:
        return "room"
    picture = picture_of_squares(squares)
    due = table_of_bundle(bundle)
    if parting_of(picture) != due.parting:
        return "parting"
    if table_of(picture, [wall]) != due:
        return "rows"
    return None if is_separate(picture, [wall]) else "island"


def squares_like(picture, wall):
    """Return a drawing of the bundle of the picture's table."""
    check_colour(wall)
    if wall in picture.colours:
        raise WallUsed(wall)
    table = table_of(picture)
    check_separate(picture)
    return drawn_bars(bundle_of_table(table), wall)
