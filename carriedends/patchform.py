"""Normal forms of bags of patches."""

from carriedends.patches import Patches, ascending
from carriedends.patchlots import patch_lots, patches_in


def keepers(lot, k):
    """Return the patches that keep the places of a lot of at least two places in normal form, in order."""
    s, others = lot[0], lot[1:]
    found = []
    for start in range(0, len(others), k - 1):
        kept = others[start:start + k - 1]
        # The last patch that keeps places may lack some: it gets the least ones, which the first patch keeps.
        found.append(tuple(sorted([s, *kept, *others[:k - 1 - len(kept)]])))
    return found


def _lot_form(lot, k, total):
    """Return a dict of counts of the patches of a lot of at least two places in normal form."""
    found = keepers(lot, k)
    counts = {corners: 1 for corners in found}
    # All patches that keep nothing are like the first one.
    counts[found[0]] += total - len(counts)
    return counts


def patch_normal(patches):
    """Return the normal form of a bag of patches."""
    counts = {}
    for lot in patch_lots(patches):
        if len(lot) > 1:
            for corners, count in _lot_form(lot, patches.k, patches_in(lot, patches.bundles)).items():
                counts[corners] = count
    return Patches(patches.n, patches.k, ascending(counts))
