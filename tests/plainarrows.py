"""Bags of arrows told a second time, plainly and slowly: as sorted tuples of single arrows (tail, head)."""

import functools
import itertools

from carriedends.arrows import made_arrows


def single_arrows(bag):
    """The arrows of a bag, like ones one after the other."""
    return tuple((u, v) for u, v, count in bag.bundles for _ in range(count))


def arrow_bagged(n, arrows):
    """The bag of single arrows."""
    return made_arrows(n, tuple((*arrow, arrows.count(arrow)) for arrow in sorted(set(arrows))))


def arrow_slid(arrows):
    """The arrows after each slide of one head, with the slide (u, v, w)."""
    for index, (u, v) in enumerate(arrows):
        others = arrows[:index] + arrows[index + 1:]
        for rail in others:
            for start, w in (rail, rail[::-1]):
                if start == v and w != u:
                    yield (tuple(sorted(others + ((u, w),))), (u, v, w))


def hang_together(n, ties):
    """Whether ties, pairs of places, hang all places together."""
    reached = {0}
    for _ in range(n):
        for u, v in ties:
            if u in reached or v in reached:
                reached |= {u, v}
    return len(reached) == n


def all_arrow_bags(n, many):
    """All bags of so many arrows."""
    return list(itertools.combinations_with_replacement(itertools.permutations(range(n), 2), many))


@functools.lru_cache(maxsize=None)
def classes_of_arrows(n, many):
    """All bags, parted into the sets of those that can be led to one another; nobody may change what is returned."""
    left = set(all_arrow_bags(n, many))
    found = []
    while left:
        start = min(left)
        together = {start}
        waiting = [start]
        while waiting:
            for after, _ in arrow_slid(waiting.pop()):
                if after not in together:
                    together.add(after)
                    waiting.append(after)
        assert together <= left
        left -= together
        found.append(together)
    return found


def random_arrows(rng, *, n, bundles, counts=(1, 1, 1, 2, 3, 10 ** 7), owners=None):
    """Some bag of arrows, of which the tails are some of the owners."""
    found = []
    for _ in range(bundles if n > 1 else 0):
        u = rng.choice(owners or range(n))
        v = rng.choice([place for place in range(n) if place != u])
        found.append((u, v, rng.choice(counts)))
    return made_arrows(n, tuple(found))
