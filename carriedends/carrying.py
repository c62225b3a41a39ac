"""Deeds done on a web."""

from carriedends.deeds import how_many, is_deed, lengths_of, rails_of, thread_after, thread_before
from carriedends.errors import BadDeed
from carriedends.rests import remainder
from carriedends.threads import unlike
from carriedends.webs import counted, rebuilt


def _has_rests(wheel, deed):
    """Return whether all lengths in a deed are rests."""
    return all([remainder(length, wheel) == length for length in lengths_of(deed)])


def _has_three_places(n, deed):
    """Return whether u, v and w of a deed are three different places."""
    u, v, w = deed[1], deed[2], deed[5]
    return 0 <= u < n and 0 <= v < n and 0 <= w < n and u != v and v != w and w != u


def fault_of(web, counts, deed):
    """Return the number of the first fault of a deed, None if it is granted.

    The deed may be any value. The threads are those of counts, all else is the web's.
    """
    if not is_deed(deed) or not _has_rests(web.wheel, deed):
        return 0
    if not _has_three_places(web.n, deed):
        return 1
    if counts.get(thread_before(web.wheel, deed), 0) < how_many(deed):
        return 2
    rails = rails_of(web.wheel, deed)
    if not all([rail in counts for rail in rails]):
        return 3
    if not all([unlike(web.rule, deed[4], rail[3]) for rail in rails]):
        return 4
    return None


def carry_out(wheel, counts, deed):
    """Change counts as a granted deed does."""
    before, j = thread_before(wheel, deed), how_many(deed)
    if counts[before] == j:
        del counts[before]
    else:
        counts[before] -= j
    after = thread_after(wheel, deed)
    counts[after] = counts.get(after, 0) + j


def carried_out(web, counts, run):
    """Change counts by the deeds of a run, up to the first one that is refused; return its index, None if none is."""
    for index, deed in enumerate(run):
        if fault_of(web, counts, deed) is not None:
            return index
        carry_out(web.wheel, counts, deed)
    return None


def done(web, deed):
    """Return the web after a deed."""
    counts = counted(web.bundles)
    fault = fault_of(web, counts, deed)
    if fault is not None:
        raise BadDeed(fault)
    carry_out(web.wheel, counts, deed)
    return rebuilt(web, counts)
