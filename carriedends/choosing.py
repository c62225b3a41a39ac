"""Numbers of ways to choose things, with and without repetition."""

from math import comb

from carriedends.errors import BadCount

MOST_CHOSEN = 400
MOST_OF_MANY_KINDS = 60


def choose(a, b):
    """Return the number of ways to choose b things out of a."""
    if a < 0:
        raise BadCount(a)
    if not 0 <= b <= MOST_CHOSEN:
        raise BadCount(b)
    return comb(a, b)


def bags(kinds, many):
    """Return the number of bags of that many things of so many kinds."""
    if kinds < 0:
        raise BadCount(kinds)
    if many < 0:
        raise BadCount(many)
    if kinds > MOST_CHOSEN and many > MOST_OF_MANY_KINDS:
        raise BadCount(kinds)
    if kinds == 0:
        return 1 if many == 0 else 0
    # A bag is a row of `many` things and kinds - 1 bars between the kinds; the rarer sort is placed.
    return choose(kinds - 1 + many, min(kinds - 1, many))
