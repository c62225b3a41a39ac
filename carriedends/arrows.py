"""Bags of arrows."""

from carriedends.errors import BadBundle, BadSize, TooMany
from carriedends.forms import are_numbers

MOST_ARROW_PLACES = 10
MOST_BUNDLES = 30
MOST_ARROWS = 1_000_000_000


class Arrows:
    """A bag of arrows; its bundles are strictly ascending and are not checked here."""

    def __init__(self, n, bundles):
        self.n = n
        self.bundles = bundles

    def __eq__(self, other):
        return isinstance(other, Arrows) and self.n == other.n and self.bundles == other.bundles


def is_arrow_bundle(thing, n):
    """Return whether thing is a bundle that can be handed in, its count looked at alone."""
    if not are_numbers(thing, 3):
        return False
    u, v, count = thing
    return 0 <= u < n and 0 <= v < n and u != v and 1 <= count <= MOST_ARROWS


def arrow_bundles(counts):
    """Return the bundles of a bag from a dict of counts by arrow."""
    return tuple([(u, v, counts[u, v]) for u, v in sorted(counts)])


def counted_arrows(bundles):
    """Return a dict of counts by arrow from bundles of which no two have the same arrow."""
    return {(u, v): count for u, v, count in bundles}


def made_arrows(n, bundles):
    """Return the bag that has these bundles, which may stand in any order and repeat arrows."""
    if not 1 <= n <= MOST_ARROW_PLACES:
        raise BadSize(n)
    if len(bundles) > MOST_BUNDLES:
        raise TooMany(len(bundles))
    counts = {}
    total = 0
    for index, bundle in enumerate(bundles):
        if not is_arrow_bundle(bundle, n):
            raise BadBundle(index)
        arrow, count = bundle[:2], bundle[2]
        total += count
        if total > MOST_ARROWS:
            raise BadBundle(index)
        counts[arrow] = counts.get(arrow, 0) + count
    return Arrows(n, arrow_bundles(counts))


def arrow_handy(arrows):
    """Return whether the bag keeps the bounds of what can be handed in."""
    if len(arrows.bundles) > MOST_BUNDLES:
        return False
    return sum([bundle[2] for bundle in arrows.bundles]) <= MOST_ARROWS
