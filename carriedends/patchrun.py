"""Runs of patches: lots gathered, bags led to their normal forms and to one another.

A lot is gathered if all its patches have its least place. In these runs all like patches are carried at once.
"""

from carriedends.errors import BadPlace, NotJoined, Wide
from carriedends.patchdeeds import carry_corner, patch_turned, replaced
from carriedends.patches import counted_patches, patch_handy
from carriedends.patchform import keepers
from carriedends.patchlots import bundles_in, patch_joined, patch_lots


def _lot_counts(lot, patches):
    """Return a dict of the counts of the patches of a lot."""
    return counted_patches(bundles_in(lot, patches.bundles))


def _do(counts, deeds, coming):
    """Change counts by the coming deeds, and add them to the deeds."""
    for deed in coming:
        carry_corner(counts, deed)
        deeds.append(deed)


def _homeward(s, counts):
    """Return a deed that carries a corner of like patches to s, in a tuple, () if all patches have s."""
    rails = [corners for corners in sorted(counts) if s in corners]
    for corners in sorted(counts):
        if s not in corners:
            for rail in rails:
                shared = [v for v in corners if v in rail]
                if shared:
                    return ((corners, shared[0], s, rail, counts[corners]),)
    return ()


def _gather(s, counts, deeds):
    """Change counts, which has the patches of a lot alone, until all have s."""
    coming = _homeward(s, counts)
    while coming:
        _do(counts, deeds, coming)
        coming = _homeward(s, counts)


def _other_with(place, corners, j, counts):
    """Return a patch that has a place, besides j patches with these corners, () if there is none."""
    for patch in sorted(counts):
        if place in patch and (patch != corners or counts[patch] > j):
            return patch
    return ()


def _change_deeds(s, corners, v, w, j, counts):
    """Return deeds after which j such patches have w in the place of v, which some other patch has, too."""
    rail = _other_with(w, corners, j, counts)
    rail_back = _other_with(v, corners, j, counts)
    return ((corners, s, w, rail, j), (replaced(corners, s, w), v, s, rail_back, j))


def _swap_deeds(s, one, x, other, y):
    """Return deeds after which a patch like one has y in the place of its x, and one like the other the reverse."""
    between = replaced(one, s, y)
    return ((one, s, y, other, 1), (other, y, x, between, 1), (between, x, s, replaced(other, y, x), 1))


def _nearest(target, locked, counts):
    """Return the patch, besides the locked ones, that has most of the corners of the target."""
    left = [patch for patch in sorted(counts) if counts[patch] > locked.count(patch)]
    return max([(len([v for v in patch if v in target]), patch) for patch in left])[1]


def _place_deeds(target, patch, w, counts):
    """Return deeds after which a patch has w in the place of a corner that the target has not, and that corner."""
    s = target[0]
    v = [corner for corner in patch if corner not in target][0]
    if _other_with(v, patch, 1, counts):
        return (v, _change_deeds(s, patch, v, w, 1, counts))
    # No other patch has v, so it goes to one that gives w.
    return (v, _swap_deeds(s, patch, v, _other_with(w, patch, 1, counts), w))


def _lead_to(target, locked, counts, deeds):
    """Lead a patch, besides the locked ones, to the target."""
    patch = _nearest(target, locked, counts)
    # The greatest places come first: no locked patch has those that the target is to keep, so none gives them. What
    # is left then is kept by locked patches, as are the least places, which the target has besides.
    for w in reversed(target):
        if w not in patch:
            v, coming = _place_deeds(target, patch, w, counts)
            _do(counts, deeds, coming)
            patch = replaced(patch, v, w)


def _lead_others(target, locked, counts, deeds):
    """Lead all patches but the locked ones, which keep all places, to the target."""
    for start in sorted(counts):
        j = counts[start] - locked.count(start)
        patch = start
        for w in target:
            if j > 0 and w not in patch:
                v = [corner for corner in patch if corner not in target][0]
                _do(counts, deeds, _change_deeds(target[0], patch, v, w, j, counts))
                patch = replaced(patch, v, w)


def _settled(lot, k, counts):
    """Change counts, which has the patches of a lot alone, to those of the normal form; return the deeds."""
    deeds = []
    _gather(lot[0], counts, deeds)
    locked = []
    for target in keepers(lot, k):
        _lead_to(target, locked, counts, deeds)
        locked.append(target)
    _lead_others(locked[0], locked, counts, deeds)
    return deeds


def _run_to_normal(patches):
    """Return a run to the normal form, lot by lot."""
    deeds = []
    for lot in patch_lots(patches):
        if len(lot) > 1:
            deeds.extend(_settled(lot, patches.k, _lot_counts(lot, patches)))
    return tuple(deeds)


def _check_lot(patches, lot):
    """Raise BadPlace(0) unless lot is one of the lots."""
    if lot not in patch_lots(patches):
        raise BadPlace(0)


def patch_gather_count(patches, lot):
    """Return the fewest slides after which all patches of a lot have its least place."""
    _check_lot(patches, lot)
    return sum([count for corners, count in bundles_in(lot, patches.bundles) if lot[0] not in corners])


def patch_gather_run(patches, lot):
    """Return a run of fewest slides after which all patches of a lot have its least place."""
    _check_lot(patches, lot)
    deeds = []
    _gather(lot[0], _lot_counts(lot, patches), deeds)
    return tuple(deeds)


def patch_normal_run(patches):
    """Return a run from a bag of patches to its normal form."""
    if not patch_handy(patches):
        raise Wide(0)
    return _run_to_normal(patches)


def patch_run_between(one, other):
    """Return a run from one bag of patches to another that is joined with it."""
    are_joined = patch_joined(one, other)
    if not patch_handy(one):
        raise Wide(0)
    if not patch_handy(other):
        raise Wide(1)
    if not are_joined:
        raise NotJoined(0)
    if one == other:
        return ()
    return (*_run_to_normal(one), *patch_turned(_run_to_normal(other)))
