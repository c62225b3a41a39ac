"""Bags of patches told a second time, plainly and slowly: as sorted tuples of single patches."""

import functools
import itertools

from carriedends.patches import made_patches


def single_patches(bag):
    """The patches of a bag, like ones one after the other."""
    return tuple(corners for corners, count in bag.bundles for _ in range(count))


def bagged(n, k, patches):
    """The bag of single patches."""
    return made_patches(n, k, tuple((corners, patches.count(corners)) for corners in sorted(set(patches))))


def patch_slid(patches):
    """The patches after each slide of one patch, with the slide (corners, v, w, rail)."""
    for index, corners in enumerate(patches):
        others = patches[:index] + patches[index + 1:]
        for rail in others:
            for v, w in itertools.permutations(rail, 2):
                if v in corners and w not in corners:
                    new = tuple(sorted(set(corners) - {v} | {w}))
                    yield (tuple(sorted(others + (new,))), (corners, v, w, rail))


def all_patch_bags(n, k, many):
    """All bags of so many patches."""
    return list(itertools.combinations_with_replacement(itertools.combinations(range(n), k), many))


@functools.lru_cache(maxsize=None)
def classes_of_patches(n, k, many):
    """All bags, parted into the sets of those that can be led to one another; nobody may change what is returned."""
    left = set(all_patch_bags(n, k, many))
    found = []
    while left:
        start = min(left)
        together = {start}
        waiting = [start]
        while waiting:
            for after, _ in patch_slid(waiting.pop()):
                if after not in together:
                    together.add(after)
                    waiting.append(after)
        assert together <= left
        left -= together
        found.append(together)
    return found
