"""Normal forms: webs in which each row of a ledger is written in one fixed way."""

from carriedends.ledger import ledger
from carriedends.rests import remainder
from carriedends.webs import Web, bundled


def _slots(wheel, row):
    """Return the pairs (position, how many threads) of a free row, in the order in which coats are given out.

    A position is (place, length from the least place of the lot).
    """
    _, lot, _, spares, common, ring, found = row
    keepers = [((place, height), 1) for place, height in zip(lot[1:], found[1:])]
    if spares == 0:
        return keepers
    excess = common if ring is None else ring
    first = (lot[1], remainder(found[1] + excess, wheel))
    return [*keepers, (first, 1), ((lot[1], found[1]), spares - 1)]


def _dealt(slots, counts):
    """Give out coats in ascending order; return a dict of counts by (place, length, coat)."""
    left = list(counts)
    dealt = {}
    for position, wanted in slots:
        missing = wanted
        for coat in range(len(left)):
            given = min(missing, left[coat])
            if given:
                left[coat] -= given
                missing -= given
                thread = (*position, coat)
                dealt[thread] = dealt.get(thread, 0) + given
    return dealt


def row_threads(wheel, row):
    """Return the threads that the normal form has for a free row: a dict of counts by (place, length, coat)."""
    return _dealt(_slots(wheel, row), row[2])


def web_of_ledger(n, wheel, coats, rule, table):
    """Return the web in normal form that has a ledger."""
    rows = [row for part in table for row in part] if rule == "own" else table
    counts = {}
    for row in rows:
        if row[0] == "stuck":
            for bundle in row[2]:
                counts[bundle[:4]] = bundle[4]
        elif row[0] == "free":
            for thread, count in row_threads(wheel, row).items():
                laid_thread = (row[1][0], *thread)
                counts[laid_thread] = count
    return Web(n, wheel, coats, rule, bundled(counts))


def normal(web):
    """Return the normal form of a web."""
    return web_of_ledger(web.n, web.wheel, web.coats, web.rule, ledger(web))
