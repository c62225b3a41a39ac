"""The measures and heights of lots."""

from carriedends.errors import BadPlace
from carriedends.lots import coat_lots, lots
from carriedends.rests import measure, remainder


def _lots_and_threads(web, coat):
    """Return the lots by the threads looked at, and these: for the coat -1 all, else those of the coat.

    Any other coat that the web does not have is refused by coat_lots.
    """
    if coat == -1:
        return (lots(web), web.bundles)
    return (coat_lots(web, coat), [bundle for bundle in web.bundles if bundle[3] == coat])


def _climbed(lot, threads):
    """Return a dict of heights that agree with enough of the threads to hang the lot together."""
    steps = {place: [] for place in lot}
    for u, v, length, _, _ in threads:
        steps[u].append((v, length))
        steps[v].append((u, -length))
    found = {lot[0]: 0}
    waiting = [lot[0]]
    while waiting:
        place = waiting.pop()
        for other, length in steps[place]:
            if other not in found:
                found[other] = found[place] + length
                waiting.append(other)
    return found


def heights(web, lot, *, coat=-1):
    """Return the measure and the heights of a lot, by all threads or by those of one coat alone."""
    known, looked_at = _lots_and_threads(web, coat)
    if lot not in known:
        raise BadPlace(0)
    threads = [bundle for bundle in looked_at if bundle[0] in lot]
    found = _climbed(lot, threads)
    rings = [found[u] + length - found[v] for u, v, length, _, _ in threads]
    common = measure(web.wheel, tuple(rings))
    return (common, tuple([remainder(found[place], common) for place in lot]))
