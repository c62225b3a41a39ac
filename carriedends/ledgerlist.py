"""All ledgers of the webs with so many places and threads of one coat under "all"."""

from itertools import combinations

from carriedends.errors import TooMany
from carriedends.howmany import ledger_numbers, ledgers, lot_ledgers
from carriedends.powers import divisors
from carriedends.rests import measure

MOST_LISTED = 2000


def _length_bags(first, many, M):
    """Return the tuples of pairs (length, count), ascending, of all bags of so many lengths from the first one on."""
    if many == 0:
        return [()]
    found = []
    for length in range(first, M):
        for count in range(1, many + 1):
            found.extend([((length, count), *others) for others in _length_bags(length + 1, many - count, M)])
    return found


def _stuck_rows(lot, many, M):
    """Return all rows of a lot of two places."""
    u, v = lot
    return [
        ("stuck", lot, tuple([(u, v, length, 0, count) for length, count in bag])) for bag in _length_bags(0, many, M)
    ]


def _measured(spares, M):
    """Return the pairs (measure, ring) that a free lot with so many spares may have."""
    if spares == 0:
        return [(M, None)]
    if spares == 1:
        return [(measure(M, (ring,)), ring) for ring in range(M // 2 + 1)]
    return [(divisor, None) for divisor in divisors(M)]


def _heights(b, common):
    """Return all tuples of heights of b places by a measure."""
    found = [(0,)]
    for _ in range(b - 1):
        found = [(*heights, height) for heights in found for height in range(common)]
    return found


def _free_rows(lot, many, M):
    """Return all rows of a lot of three and more places."""
    spares = many - len(lot) + 1
    return [
        ("free", lot, (many,), spares, common, ring, heights)
        for common, ring in _measured(spares, M) for heights in _heights(len(lot), common)
    ]


def _rows(lot, many, M):
    """Return all rows of a lot with so many threads; there is one."""
    if len(lot) == 1:
        return [("one", lot[0])]
    return _stuck_rows(lot, many, M) if len(lot) == 2 else _free_rows(lot, many, M)


def _with_first_lot(left, more, count, many, M, numbers):
    """Return the tables in which the first place that is left is in a lot with so many more and with count threads."""
    found = []
    others = left[1:]
    for together in combinations(others, more):
        lot = (left[0], *together)
        beyond = [place for place in left if place not in lot]
        tails = _tables(beyond, many - count, M, numbers)
        found.extend([(row, *tail) for row in _rows(lot, count, M) for tail in tails])
    return found


def _tables(left, many, M, numbers):
    """Return all tuples of rows of the places that are left, with so many threads."""
    if not left:
        return [()] if many == 0 else []
    found = []
    for more in range(len(left)):
        for count in range(many + 1):
            # Nothing is begun that leads to no table, so there is not much more to do than there are tables.
            if lot_ledgers(more + 1, count, M) and numbers[len(left) - more - 1][many - count]:
                found.extend(_with_first_lot(left, more, count, many, M, numbers))
    return found


def all_ledgers(n, many, M):
    """Return all ledgers of webs of n places with so many threads of one coat under "all", for a wheel M >= 1."""
    total = ledgers(n, many, M)
    if total > MOST_LISTED:
        raise TooMany(total)
    return tuple(_tables(list(range(n)), many, M, ledger_numbers(n, many, M)))
