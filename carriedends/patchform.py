"""Normal forms of bags of patches."""

from carriedends.patches import Patches, ascending
from carriedends.patchlots import patch_lots, patches_in


def _filled(s, others, kept, size):
    """Return the patch that has s, the places that it keeps, and the least others that it lacks."""
    fillers = [place for place in others if place not in kept]
    return tuple(sorted([s, *kept, *fillers[:size - len(kept)]]))


def _lot_form(lot, k, total):
    """Return a dict of counts of the patches of a lot of at least two places in normal form."""
    s, others = lot[0], lot[1:]
    counts = {}
    left = total
    for start in range(0, len(others), k - 1):
        corners = _filled(s, others, others[start:start + k - 1], k - 1)
        counts[corners] = counts.get(corners, 0) + 1
        left -= 1
    if left:
        corners = _filled(s, others, (), k - 1)
        counts[corners] = counts.get(corners, 0) + left
    return counts


def patch_normal(patches):
    """Return the normal form of a bag of patches."""
    counts = {}
    for lot in patch_lots(patches):
        if len(lot) > 1:
            for corners, count in _lot_form(lot, patches.k, patches_in(lot, patches.bundles)).items():
                counts[corners] = count
    return Patches(patches.n, patches.k, ascending(counts))
