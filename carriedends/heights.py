"""The measures and heights of lots."""

from carriedends.errors import BadPlace
from carriedends.lots import lots_and_bundles, lying_in
from carriedends.rests import measure, remainder


def _climbed(lot, bundles):
    """Return a dict of heights that agree with enough of the threads to hang the lot together."""
    steps = {place: [] for place in lot}
    for u, v, length, _, _ in bundles:
        steps[u].append((v, length))
        steps[v].append((u, -length))
    found = {lot[0]: 0}
    waiting = [lot[0]]
    while waiting:
        place = waiting.pop()
        for other, length in steps[place]:
            if other not in found:
                found[other] = found[place] + length
                waiting.append(other)
    return found


def surveyed(wheel, lot, bundles):
    """Return the measure of a lot in which these bundles lie, the sum of its ring sums, and its heights.

    In a lot with one spare no ring sum but one can be other than 0, so their sum is that one.
    """
    found = _climbed(lot, bundles)
    rings = [found[u] + length - found[v] for u, v, length, _, _ in bundles]
    common = measure(wheel, tuple(rings))
    return (common, sum(rings), tuple([remainder(found[place], common) for place in lot]))


def heights(web, lot, *, coat=-1):
    """Return the measure and the heights of a lot, by all threads or by those of one coat alone."""
    known, bundles = lots_and_bundles(web, coat)
    if lot not in known:
        raise BadPlace(0)
    common, _, found = surveyed(web.wheel, lot, lying_in(lot, bundles))
    return (common, found)
