"""Partings of a number of things into sets, and the signs that belong to them."""

from math import factorial

from carriedends.errors import BadCount, BadSize

MOST_PARTED = 20


def _falling(total, greatest):
    """Return the tuples of numbers from 1 to greatest that never rise and have this sum, descending."""
    if total == 0:
        return [()]
    found = []
    for first in range(min(total, greatest), 0, -1):
        for others in _falling(total - first, first):
            found.append((first, *others))
    return found


def _ways(parts):
    """Return in how many ways distinguishable things can be parted into sets of these sizes."""
    ways = factorial(sum(parts))
    for part in parts:
        ways //= factorial(part)
    # Sets of the same size are not told apart.
    for part in sorted(set(parts)):
        ways //= factorial(parts.count(part))
    return ways


def partings(b):
    """Return the pairs (parts, ways) of all ways to write b as a sum, parts descending."""
    if not 1 <= b <= MOST_PARTED:
        raise BadSize(b)
    return tuple([(parts, _ways(parts)) for parts in _falling(b, b)])


def sign_of(m):
    """Return (m - 1)!, with the sign - for even m."""
    if not 1 <= m <= MOST_PARTED:
        raise BadCount(m)
    return factorial(m - 1) if m % 2 == 1 else -factorial(m - 1)
