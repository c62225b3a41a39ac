"""Ledgers: what deeds never change in a web, and by which one can tell what it can be led to."""

from carriedends.errors import Unlike
from carriedends.heights import surveyed
from carriedends.lots import is_free, lots_and_bundles, lying_in
from carriedends.rests import lesser


def views(web):
    """Return the pairs (lots, bundles) from which the ledger is made: one for each coat under "own", else one."""
    if web.rule == "own":
        return [lots_and_bundles(web, coat) for coat in range(web.coats)]
    return [lots_and_bundles(web, -1)]


def _free_row(web, lot, bundles):
    """Return the row of a free lot."""
    counts = [0] * web.coats
    for bundle in bundles:
        counts[bundle[3]] += bundle[4]
    spares = sum(counts) - len(lot) + 1
    common, ring_sum, found = surveyed(web.wheel, lot, bundles)
    ring = lesser(ring_sum, web.wheel) if spares == 1 else None
    return ("free", lot, tuple(counts), spares, common, ring, found)


def _row(web, lot, bundles):
    """Return the row of a lot in which these bundles lie."""
    if len(lot) == 1:
        return ("one", lot[0])
    if is_free(web.rule, lot, bundles):
        return _free_row(web, lot, bundles)
    return ("stuck", lot, bundles)


def _rows(web, view):
    """Return the rows of the lots of one view."""
    known, bundles = view
    return tuple([_row(web, lot, lying_in(lot, bundles)) for lot in known])


def ledger(web):
    """Return the ledger: a tuple of rows, under "own" a tuple of such tuples, one for each coat."""
    tables = tuple([_rows(web, view) for view in views(web)])
    return tables if web.rule == "own" else tables[0]


def check_alike(one, other):
    """Raise Unlike unless the webs have the same places, wheel, coats and rule."""
    if one.n != other.n:
        raise Unlike("n")
    if one.wheel != other.wheel:
        raise Unlike("wheel")
    if one.coats != other.coats:
        raise Unlike("coats")
    if one.rule != other.rule:
        raise Unlike("rule")


def joined(one, other):
    """Return whether one of two alike webs can be led to the other."""
    check_alike(one, other)
    return ledger(one) == ledger(other)
