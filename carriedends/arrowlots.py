"""Lots and ledgers of bags of arrows."""

from carriedends.errors import Unlike
from carriedends.lots import hanging


def arrow_lots(arrows):
    """Return the lots, by their least places."""
    return hanging(arrows.n, arrows.bundles)


def arrows_in(lot, bundles):
    """Return the bundles of the arrows that lie in a lot."""
    return tuple([bundle for bundle in bundles if bundle[0] in lot])


def outs_of(lot, bundles):
    """Return how many arrows leave each of the places of a lot, equal ones counted each."""
    return tuple([sum([count for u, _, count in bundles if u == place]) for place in lot])


def owners_of(lot, outs):
    """Return the places of a lot that arrows leave, ascending."""
    return [place for place, out in zip(lot, outs) if out > 0]


def is_free_lot(lot, outs):
    """Return whether heads of arrows can be carried in a lot."""
    return len(lot) > 2 and len(owners_of(lot, outs)) > 1


def free_lots(arrows):
    """Return the free lots, by their least places."""
    return [lot for lot in arrow_lots(arrows) if is_free_lot(lot, outs_of(lot, arrows.bundles))]


def _row(lot, bundles):
    """Return the row of a lot of a bag with these bundles."""
    if len(lot) == 1:
        return ("one", lot[0])
    outs = outs_of(lot, bundles)
    if is_free_lot(lot, outs):
        return ("free", lot, outs)
    return ("stuck", lot, arrows_in(lot, bundles))


def arrow_ledger(arrows):
    """Return the ledger: one row for each lot."""
    return tuple([_row(lot, arrows.bundles) for lot in arrow_lots(arrows)])


def arrow_joined(one, other):
    """Return whether one of two bags of arrows can be led to the other."""
    if one.n != other.n:
        raise Unlike("n")
    return arrow_ledger(one) == arrow_ledger(other)
