"""Bags of patches."""

from carriedends.errors import BadBundle, BadCount, BadSize, TooMany
from carriedends.forms import are_numbers, is_number

MOST_PATCH_PLACES = 11
LEAST_CORNERS = 2
MOST_CORNERS = 4
MOST_BUNDLES = 30
MOST_PATCHES = 1_000_000_000


class Patches:
    """A bag of patches; its bundles are strictly ascending and are not checked here."""

    def __init__(self, n, k, bundles):
        self.n = n
        self.k = k
        self.bundles = bundles

    def __eq__(self, other):
        return (
            isinstance(other, Patches) and self.n == other.n and self.k == other.k and self.bundles == other.bundles
        )


def are_corners(thing, n, k):
    """Return whether thing is a tuple of k of n places, strictly ascending."""
    if not are_numbers(thing, k):
        return False
    return thing[0] >= 0 and thing[-1] < n and all([low < high for low, high in zip(thing, thing[1:])])


def is_patch_bundle(thing, n, k):
    """Return whether thing is a bundle that can be handed in, its count looked at alone."""
    if not isinstance(thing, tuple) or len(thing) != 2:
        return False
    corners, count = thing
    return are_corners(corners, n, k) and is_number(count) and 1 <= count <= MOST_PATCHES


def ascending(counts):
    """Return the bundles of a bag from a dict of counts by patch."""
    return tuple([(corners, counts[corners]) for corners in sorted(counts)])


def counted_patches(bundles):
    """Return a dict of counts by patch from bundles of which no two have the same corners."""
    return {corners: count for corners, count in bundles}


def made_patches(n, k, bundles):
    """Return the bag that has these bundles, which may stand in any order and repeat patches."""
    if not 1 <= n <= MOST_PATCH_PLACES:
        raise BadSize(n)
    if not LEAST_CORNERS <= k <= MOST_CORNERS:
        raise BadCount(k)
    if len(bundles) > MOST_BUNDLES:
        raise TooMany(len(bundles))
    counts = {}
    total = 0
    for index, bundle in enumerate(bundles):
        if not is_patch_bundle(bundle, n, k):
            raise BadBundle(index)
        corners, count = bundle
        total += count
        if total > MOST_PATCHES:
            raise BadBundle(index)
        counts[corners] = counts.get(corners, 0) + count
    return Patches(n, k, ascending(counts))


def patch_handy(patches):
    """Return whether the bag keeps the bounds of what can be handed in."""
    if len(patches.bundles) > MOST_BUNDLES:
        return False
    return sum([count for _, count in patches.bundles]) <= MOST_PATCHES
