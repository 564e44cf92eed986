"""Facts about marks: that two are one, that one has a colour, that two have unlike colours."""

from spreadhues.colours import is_colour, is_sequence, is_whole
from spreadhues.errors import BadFact, BadParting
from spreadhues.lots import is_parting
from spreadhues.scripts import check_firsts, check_marks

PAIR_WORDS = ("one", "unlike")


def check_fact(marks, fact):
    """Return a fact about so many marks as a tuple or raise BadFact."""
    check_marks(marks)
    if not is_sequence(fact) or len(fact) != 3 or not is_whole(fact[1], 0, marks - 1):
        raise BadFact(fact)
    word, mark, other = fact
    if word in PAIR_WORDS and is_whole(other, 0, marks - 1) and other != mark:
        return (word, mark, other)
    if word == "colour" and is_colour(other):
        return (word, mark, other)
    raise BadFact(fact)


def fact_holds(parting, colours, fact):
    """Return whether the fact holds for marks with this parting and these colours."""
    if not is_parting(parting):
        raise BadParting(parting)
    shown = check_firsts(len(parting), colours)
    word, mark, other = check_fact(len(parting), fact)
    if word == "one":
        return parting[mark] == parting[other]
    if word == "unlike":
        return shown[mark] != shown[other]
    return shown[mark] == other
