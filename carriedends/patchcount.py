"""Numbers of bags of patches, and how many can be come to from one."""

from carriedends.choosing import bags, choose
from carriedends.errors import BadCount, BadSize
from carriedends.parting import partings, sign_of
from carriedends.patches import LEAST_CORNERS, MOST_CORNERS, MOST_PATCH_PLACES, MOST_PATCHES
from carriedends.patchlots import patch_lots, patches_in


def _hanging_bags(b, k, many):
    """Return the number of bags of so many patches with k corners that hang b places together."""
    total = 0
    for parts, ways in partings(b):
        kinds = sum([choose(part, k) for part in parts])
        total += ways * sign_of(len(parts)) * bags(kinds, many)
    return total


def connected_patches(b, k, many):
    """Return the number of bags of so many patches with k corners that hang b places together."""
    if not 1 <= b <= MOST_PATCH_PLACES:
        raise BadSize(b)
    if not LEAST_CORNERS <= k <= MOST_CORNERS:
        raise BadCount(k)
    if not 0 <= many <= MOST_PATCHES:
        raise BadCount(many)
    return _hanging_bags(b, k, many)


def patch_class_size(patches):
    """Return how many bags of patches can be come to from one, itself included."""
    size = 1
    for lot in patch_lots(patches):
        if len(lot) > 1:
            size *= _hanging_bags(len(lot), patches.k, patches_in(lot, patches.bundles))
    return size
