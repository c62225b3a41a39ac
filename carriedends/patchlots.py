"""Lots and ledgers of bags of patches."""

from carriedends.errors import Unlike
from carriedends.lots import hanging


def patch_lots(patches):
    """Return the lots, by their least places."""
    ties = [(corners[0], corner) for corners, _ in patches.bundles for corner in corners[1:]]
    return hanging(patches.n, ties)


def bundles_in(lot, bundles):
    """Return the bundles of the patches that lie in a lot."""
    return tuple([(corners, count) for corners, count in bundles if corners[0] in lot])


def patches_in(lot, bundles):
    """Return how many patches lie in a lot, equal ones counted each."""
    return sum([count for _, count in bundles_in(lot, bundles)])


def patch_ledger(patches):
    """Return the ledger: one row for each lot."""
    rows = []
    for lot in patch_lots(patches):
        rows.append(("one", lot[0]) if len(lot) == 1 else (lot, patches_in(lot, patches.bundles)))
    return tuple(rows)


def check_alike_patches(one, other):
    """Raise Unlike unless two bags have the same places and corners."""
    if one.n != other.n:
        raise Unlike("n")
    if one.k != other.k:
        raise Unlike("k")


def patch_joined(one, other):
    """Return whether one of two bags of patches can be led to the other."""
    check_alike_patches(one, other)
    return patch_ledger(one) == patch_ledger(other)
