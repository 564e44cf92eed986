"""Parts of a few things: all of them, and whether one lies within another."""


def all_parts(things):
    """Return all parts of the ascending things as tuples, by length, then ascending."""
    parts = [()]
    for thing in things:
        parts = parts + [part + (thing,) for part in parts]
    return [part for length, part in sorted([(len(chosen), chosen) for chosen in parts])]


def has_part(whole, parts):
    """Return whether one of the parts lies within the whole."""
    return any([all([thing in whole for thing in part]) for part in parts])
