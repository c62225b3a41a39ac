"""Deeds of patches, and runs of them. A deed is (corners, v, w, rail, j)."""

from carriedends.errors import BadDeed, BadRow, TooMany
from carriedends.forms import are_numbers, is_number
from carriedends.patches import Patches, are_corners, ascending, counted_patches
from carriedends.runs import MOST_DEEDS


def _is_deed(thing):
    """Return whether thing is a deed by form; its numbers but j may be any."""
    if not isinstance(thing, tuple) or len(thing) != 5:
        return False
    corners, v, w, rail, j = thing
    if not isinstance(corners, tuple) or not isinstance(rail, tuple):
        return False
    return are_numbers((*corners, v, w, *rail, j), len(corners) + len(rail) + 3) and j >= 1


def _fault_of(patches, counts, deed):
    """Return the number of the first fault of a deed, None if it is granted.

    The deed may be any value. The patches are those of counts, all else is that of the bag.
    """
    if not _is_deed(deed):
        return 0
    corners, v, w, rail, j = deed
    if not are_corners(corners, patches.n, patches.k) or not are_corners(rail, patches.n, patches.k):
        return 1
    if v not in corners or not 0 <= w < patches.n or w in corners:
        return 1
    if counts.get(corners, 0) < j:
        return 2
    if rail not in counts or v not in rail or w not in rail:
        return 3
    return None


def replaced(corners, v, w):
    """Return the corners in which w stands in the place of v."""
    return tuple(sorted([w if corner == v else corner for corner in corners]))


def carry_corner(counts, deed):
    """Change counts as a granted deed does."""
    before, v, w, _, j = deed
    if counts[before] == j:
        del counts[before]
    else:
        counts[before] -= j
    after = replaced(before, v, w)
    counts[after] = counts.get(after, 0) + j


def patch_done(patches, deed):
    """Return the bag after a deed."""
    counts = counted_patches(patches.bundles)
    fault = _fault_of(patches, counts, deed)
    if fault is not None:
        raise BadDeed(fault)
    carry_corner(counts, deed)
    return Patches(patches.n, patches.k, ascending(counts))


def patch_offers(patches):
    """Return all granted deeds that carry one patch, ascending."""
    found = []
    for corners, _ in patches.bundles:
        for rail, _ in patches.bundles:
            shared = [v for v in rail if v in corners]
            others = [w for w in rail if w not in corners]
            found.extend([(corners, v, w, rail, 1) for v in shared for w in others])
    return tuple(sorted(found))


def _carried_out(patches, counts, run):
    """Change counts by the deeds of a run, up to the first one that is refused; return its index, None if none is."""
    for index, deed in enumerate(run):
        if _fault_of(patches, counts, deed) is not None:
            return index
        carry_corner(counts, deed)
    return None


def patch_walked(patches, run):
    """Return the bag after a run."""
    if len(run) > MOST_DEEDS:
        raise TooMany(len(run))
    counts = counted_patches(patches.bundles)
    index = _carried_out(patches, counts, run)
    if index is not None:
        raise BadRow(index)
    return Patches(patches.n, patches.k, ascending(counts))


def patch_run_right(patches, run, goal):
    """Return whether run, which may be any value, is a run that leads from a bag to the goal."""
    if not isinstance(run, tuple) or len(run) > MOST_DEEDS:
        return False
    counts = counted_patches(patches.bundles)
    if _carried_out(patches, counts, run) is not None:
        return False
    return Patches(patches.n, patches.k, ascending(counts)) == goal


def patch_turned(run):
    """Return the run that takes a granted run back."""
    return tuple([(replaced(corners, v, w), w, v, rail, j) for corners, v, w, rail, j in reversed(run)])


def patch_slides(run):
    """Return how many patches are carried by a run, one after the other."""
    return sum([deed[4] for deed in run])
