"""Texts of bags of patches and of arrows."""

from carriedends.arrows import MOST_ARROW_PLACES, Arrows, arrow_handy, counted_arrows, is_arrow_bundle
from carriedends.errors import BadText, Wide
from carriedends.patches import (
    LEAST_CORNERS, MOST_CORNERS, MOST_PATCH_PLACES, Patches, counted_patches, is_patch_bundle, patch_handy,
)
from carriedends.webs import too_much
from carriedends.words import read_row, row_of


def text_of_patches(patches):
    """Return the text of a bag of patches."""
    if not patch_handy(patches):
        raise Wide(0)
    rows = [row_of(("patches", patches.n, patches.k))]
    rows.extend([row_of(("patch", *corners, count)) for corners, count in patches.bundles])
    return "\n".join(rows)


def text_of_arrows(arrows):
    """Return the text of a bag of arrows."""
    if not arrow_handy(arrows):
        raise Wide(0)
    rows = [row_of(("arrows", arrows.n))]
    rows.extend([row_of(("arrow", *bundle)) for bundle in arrows.bundles])
    return "\n".join(rows)


def _patch_bundle(row, k):
    """Return the bundle that a row tells, None if it has no such form."""
    numbers = read_row(row, "patch", k + 1, ())
    return None if numbers is None else (numbers[:k], numbers[k])


def patches_of(text):
    """Return the bag of patches that a text tells."""
    rows = text.split("\n")
    head = read_row(rows[0], "patches", 2, ())
    if head is None or not 1 <= head[0] <= MOST_PATCH_PLACES or not LEAST_CORNERS <= head[1] <= MOST_CORNERS:
        raise BadText(0)
    n, k = head
    bundles = []
    for index, row in enumerate(rows[1:], start=1):
        bundle = _patch_bundle(row, k)
        if not is_patch_bundle(bundle, n, k) or (bundles and bundles[-1][0] >= bundle[0]):
            raise BadText(index)
        bundles.append(bundle)
    if too_much(counted_patches(bundles)):
        raise BadText(len(rows))
    return Patches(n, k, tuple(bundles))


def arrows_of(text):
    """Return the bag of arrows that a text tells."""
    rows = text.split("\n")
    head = read_row(rows[0], "arrows", 1, ())
    if head is None or not 1 <= head[0] <= MOST_ARROW_PLACES:
        raise BadText(0)
    bundles = []
    for index, row in enumerate(rows[1:], start=1):
        bundle = read_row(row, "arrow", 3, ())
        if not is_arrow_bundle(bundle, head[0]) or (bundles and bundles[-1][:2] >= bundle[:2]):
            raise BadText(index)
        bundles.append(bundle)
    if too_much(counted_arrows(bundles)):
        raise BadText(len(rows))
    return Arrows(head[0], tuple(bundles))
