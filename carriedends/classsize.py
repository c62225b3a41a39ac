"""Sizes of classes: how many webs can be come to from a web."""

from math import factorial

from carriedends.choosing import MOST_CHOSEN, MOST_OF_MANY_KINDS, choose
from carriedends.connected import hanging_bags, one_ring, trees
from carriedends.errors import TooMany
from carriedends.ledger import ledger
from carriedends.powers import divisors, mu, power
from carriedends.rests import remainder


def _dealings(counts):
    """Return the number of ways to give coats to distinguishable threads, counts[c] of them the coat c."""
    ways = factorial(sum(counts))
    for count in counts:
        ways //= factorial(count)
    return ways


def _twin_dealings(counts):
    """Return the number of ways to give coats to the other threads, for all coats of two like threads together."""
    total = 0
    for coat, count in enumerate(counts):
        if count >= 2:
            total += _dealings((*counts[:coat], count - 2, *counts[coat + 1:]))
    return total


def _one_spare_size(b, counts, ring, wheel, lifts):
    """Return the size of a row with one spare; lifts is how many heights of the places there are for the one row."""
    signs = 1 if remainder(2 * ring, wheel) == 0 else 2
    singles = _dealings(counts) * lifts * signs
    twins = lifts * _twin_dealings(counts) if ring == 0 else 0
    return one_ring(b) * singles + trees(b) * (b - 1) * (singles + twins) // 2


def _many_spares_size(b, counts, common, wheel):
    """Return the size of a row with two and more spares, for a wheel >= 1."""
    q = wheel // common
    total = 0
    for d in divisors(q):
        sign = mu(d)
        if sign:
            total += sign * power(d, b - 1) * hanging_bags(b, counts, q // d)
    return total


def lot_size(free, wheel):
    """Return the size of a free row of a ledger, None if it is endless."""
    _, places, counts, spares, common, ring, _ = free
    b = len(places)
    if wheel == 0 and common > 0:
        return None
    q = 1 if wheel == 0 else wheel // common
    if spares == 0:
        return trees(b) * _dealings(counts)
    if spares == 1:
        return _one_spare_size(b, counts, ring, wheel, power(q, b - 1))
    kinds = q * choose(b, 2)
    if max(counts) > MOST_OF_MANY_KINDS and kinds > MOST_CHOSEN:
        raise TooMany(kinds)
    if wheel == 0:
        return hanging_bags(b, counts, 1)
    return _many_spares_size(b, counts, common, wheel)


def class_size(web):
    """Return the size of the class of a web, None if it is endless."""
    table = ledger(web)
    rows = [row for part in table for row in part] if web.rule == "own" else table
    sizes = [lot_size(row, web.wheel) for row in rows if row[0] == "free"]
    if None in sizes:
        return None
    product_of_sizes = 1
    for size in sizes:
        product_of_sizes *= size
    return product_of_sizes
