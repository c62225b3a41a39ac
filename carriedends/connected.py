"""Numbers of bags of threads that hang places together."""

from math import factorial

from carriedends.choosing import MOST_CHOSEN, MOST_OF_MANY_KINDS, bags, choose
from carriedends.errors import BadCount, BadSize
from carriedends.parting import partings, sign_of
from carriedends.powers import power
from carriedends.webs import MOST_COATS, MOST_PLACES, MOST_THREADS

MOST_KINDS = 1_000_000


def _check_size(b):
    """Raise BadSize(b) unless there can be so many places."""
    if not 1 <= b <= MOST_PLACES:
        raise BadSize(b)


def _check_counts(counts):
    """Raise the BadCount that is due unless counts says for each of some coats how many threads there are."""
    if not 1 <= len(counts) <= MOST_COATS:
        raise BadCount(len(counts))
    for index, count in enumerate(counts):
        if not 0 <= count <= MOST_THREADS:
            raise BadCount(index)


def _check_kinds(b, counts, kinds):
    """Raise BadCount(kinds) unless bags of so many threads of so many kinds are counted."""
    if not 1 <= kinds <= MOST_KINDS:
        raise BadCount(kinds)
    if max(counts) > MOST_OF_MANY_KINDS and kinds * choose(b, 2) > MOST_CHOSEN:
        raise BadCount(kinds)


def hanging_bags(b, counts, kinds):
    """Return the number of bags with so many threads of each coat that hang b places together.

    Between each two places a thread can have so many kinds of lengths. The bounds of what `connected` is handed are not
    asked for here: ledgers may have rows beyond them.
    """
    total = 0
    for parts, ways in partings(b):
        pairs = sum([choose(part, 2) for part in parts])
        term = ways * sign_of(len(parts))
        for count in counts:
            term *= bags(kinds * pairs, count)
        total += term
    return total


def connected(b, counts, kinds):
    """Return the number of bags with so many threads of each coat that hang b places together."""
    _check_size(b)
    _check_counts(counts)
    _check_kinds(b, counts, kinds)
    return hanging_bags(b, counts, kinds)


def trees(b):
    """Return the number of trees on b places."""
    _check_size(b)
    return power(b, b - 2)


def one_ring(b):
    """Return the number of bags of b unlike threads of one length and coat that hang b places together."""
    _check_size(b)
    total = 0
    for c in range(3, b + 1):
        rings = choose(b, c) * factorial(c - 1) // 2
        hangings = 1 if c == b else c * power(b, b - c - 1)
        total += rings * hangings
    return total
