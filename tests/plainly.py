"""Webs told a second time, plainly and slowly: as sorted tuples of single threads (u, v, length, coat), u < v."""

import functools
import itertools

from carriedends.webs import made_web


def single(web):
    """The threads of a web, like ones one after the other."""
    return tuple(sorted(bundle[:4] for bundle in web.bundles for _ in range(bundle[4])))


def webbed(n, wheel, coats, rule, threads):
    """The web of single threads."""
    return made_web(n, wheel, coats, rule, tuple((*thread, threads.count(thread)) for thread in sorted(set(threads))))


def bare(wheel, length):
    return length % wheel if wheel else length


def lets(rule, coat, railcoat):
    return {"all": True, "others": coat != railcoat, "own": coat == railcoat}[rule]


def both_ways(wheel, thread):
    """The thread as (from, to, length, coat), seen from both its ends."""
    u, v, length, coat = thread
    return ((u, v, length, coat), (v, u, bare(wheel, -length), coat))


def slid(wheel, rule, threads):
    """The threads after each slide that can be done, with the slide (u, v, length, coat, w, rail, railcoat)."""
    for index, thread in enumerate(threads):
        others = threads[:index] + threads[index + 1:]
        for u, v, length, coat in both_ways(wheel, thread):
            for other in others:
                for start, w, rail, railcoat in both_ways(wheel, other):
                    if start == v and w != u and lets(rule, coat, railcoat):
                        after = bare(wheel, length + rail)
                        new = (u, w, after, coat) if u < w else (w, u, bare(wheel, -after), coat)
                        yield (tuple(sorted(others + (new,))), (u, v, length, coat, w, rail, railcoat))


def reached(wheel, rule, threads, limit=10 ** 9):
    """All that slides lead to, itself included."""
    found = {threads}
    waiting = [threads]
    while waiting and len(found) < limit:
        for after, _ in slid(wheel, rule, waiting.pop()):
            if after not in found:
                found.add(after)
                waiting.append(after)
    return found


def all_bags(n, wheel, coats, many):
    """All bags of so many threads, for a wheel >= 1."""
    kinds = [
        (u, v, length, coat)
        for u in range(n) for v in range(u + 1, n) for length in range(wheel) for coat in range(coats)
    ]
    return list(itertools.combinations_with_replacement(kinds, many))


@functools.lru_cache(maxsize=None)
def classes(n, wheel, coats, rule, many):
    """All bags, parted into the sets of those that can be led to one another; nobody may change what is returned."""
    left = set(all_bags(n, wheel, coats, many))
    found = []
    while left:
        together = reached(wheel, rule, min(left))
        assert together <= left
        left -= together
        found.append(together)
    return found
