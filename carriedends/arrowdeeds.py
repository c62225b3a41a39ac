"""Deeds of arrows, and runs of them. A deed is (u, v, w, j)."""

from carriedends.arrows import Arrows, arrow_bundles, counted_arrows
from carriedends.errors import BadDeed, BadRow, TooMany
from carriedends.forms import are_numbers
from carriedends.runs import MOST_DEEDS


def _fault_of(n, counts, deed):
    """Return the number of the first fault of a deed on the arrows of counts, None if it is granted.

    The deed may be any value.
    """
    if not are_numbers(deed, 4) or deed[3] < 1:
        return 0
    u, v, w, j = deed
    if not (0 <= u < n and 0 <= v < n and 0 <= w < n) or u == v or v == w or w == u:
        return 1
    if counts.get((u, v), 0) < j:
        return 2
    if (v, w) not in counts and (w, v) not in counts:
        return 3
    return None


def carry_heads(counts, deed):
    """Change counts as a granted deed does."""
    u, v, w, j = deed
    if counts[u, v] == j:
        del counts[u, v]
    else:
        counts[u, v] -= j
    counts[u, w] = counts.get((u, w), 0) + j


def carry_all(counts, deeds, coming):
    """Change counts as granted deeds do that are coming, and add them to the deeds."""
    for deed in coming:
        carry_heads(counts, deed)
        deeds.append(deed)


def arrow_done(arrows, deed):
    """Return the bag after a deed."""
    counts = counted_arrows(arrows.bundles)
    fault = _fault_of(arrows.n, counts, deed)
    if fault is not None:
        raise BadDeed(fault)
    carry_heads(counts, deed)
    return Arrows(arrows.n, arrow_bundles(counts))


def arrow_offers(arrows):
    """Return all granted deeds that carry one arrow, ascending."""
    ties = [bundle[:2] for bundle in arrows.bundles]
    found = []
    for u, v in ties:
        for w in range(arrows.n):
            if w != u and ((v, w) in ties or (w, v) in ties):
                found.append((u, v, w, 1))
    return tuple(sorted(found))


def _carried_out(n, counts, run):
    """Change counts by the deeds of a run, up to the first one that is refused; return its index, None if none is."""
    for index, deed in enumerate(run):
        if _fault_of(n, counts, deed) is not None:
            return index
        carry_heads(counts, deed)
    return None


def arrow_walked(arrows, run):
    """Return the bag after a run."""
    if len(run) > MOST_DEEDS:
        raise TooMany(len(run))
    counts = counted_arrows(arrows.bundles)
    index = _carried_out(arrows.n, counts, run)
    if index is not None:
        raise BadRow(index)
    return Arrows(arrows.n, arrow_bundles(counts))


def arrow_run_right(arrows, run, goal):
    """Return whether run, which may be any value, is a run that leads from a bag to the goal."""
    if not isinstance(run, tuple) or len(run) > MOST_DEEDS:
        return False
    counts = counted_arrows(arrows.bundles)
    if _carried_out(arrows.n, counts, run) is not None:
        return False
    return Arrows(arrows.n, arrow_bundles(counts)) == goal


def arrow_turned(run):
    """Return the run that takes a granted run back."""
    return tuple([(u, w, v, j) for u, v, w, j in reversed(run)])


def arrow_slides(run):
    """Return how many arrows are carried by a run, one after the other."""
    return sum([deed[3] for deed in run])
