"""Small classes searched slide by slide. Within a class a web is told by its bundles."""

from carriedends.carrying import carry_out
from carriedends.classsize import class_size
from carriedends.errors import NotJoined, TooMany
from carriedends.ledger import joined
from carriedends.runs import offers
from carriedends.webs import bundled, counted, rebuilt

MOST_SEARCHED = 2000


def _computed_size(web):
    """Return the size of the class of a web, None if it is endless or is not computed."""
    try:
        return class_size(web)
    except TooMany:
        return None


def check_searched(web):
    """Raise TooMany unless the class of a web is small enough to be searched."""
    size = _computed_size(web)
    if size is None:
        raise TooMany(0)
    if size > MOST_SEARCHED:
        raise TooMany(size)


def check_pair(one, other):
    """Raise Unlike, NotJoined or TooMany unless two webs are in one class, which is small enough to be searched."""
    if not joined(one, other):
        raise NotJoined(0)
    check_searched(one)


def slid(web, bundles):
    """Return the pairs (slide, bundles after it) of all slides that can be done on a web of the class."""
    there = rebuilt(web, counted(bundles))
    found = []
    for slide in offers(there):
        counts = counted(bundles)
        carry_out(web.wheel, counts, slide)
        found.append((slide, bundled(counts)))
    return found


def spread(web):
    """Return a dict of all webs of the class, those of fewer slides first.

    For each web it has the fewest slides, and, but for the first one, the last slide and the web before it.
    """
    found = {web.bundles: (0, (), ())}
    ring = [web.bundles]
    while ring:
        further = []
        for bundles in ring:
            for slide, after in slid(web, bundles):
                if after not in found:
                    found[after] = (found[bundles][0] + 1, slide, bundles)
                    further.append(after)
        ring = further
    return found
