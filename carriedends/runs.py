"""What can be done on a web, and runs of deeds."""

from carriedends.carrying import carried_out
from carriedends.deeds import carry_along
from carriedends.errors import BadRow, TooMany
from carriedends.ledger import views
from carriedends.lots import is_free, lying_in
from carriedends.threads import seen_from, unlike
from carriedends.webs import counted, rebuilt

MOST_DEEDS = 100_000


def _is_carried(web, v, thread, rail):
    """Return whether the end at v of a thread may be carried along another thread that has an end at v, too."""
    leads_elsewhere = seen_from(v, thread, web.wheel)[0] != seen_from(v, rail, web.wheel)[0]
    return leads_elsewhere and unlike(web.rule, thread[3], rail[3])


def offers(web):
    """Return all granted carry deeds of one thread, ascending."""
    found = []
    for v in range(web.n):
        threads = [bundle[:4] for bundle in web.bundles if v in bundle[:2]]
        for thread in threads:
            rails = [rail for rail in threads if _is_carried(web, v, thread, rail)]
            found.extend([carry_along(web.wheel, v, thread, rail, 1) for rail in rails])
    return tuple(sorted(found))


def stirs(web):
    """Return whether a web has an offer; only free lots have some."""
    for known, bundles in views(web):
        if any([is_free(web.rule, lot, lying_in(lot, bundles)) for lot in known]):
            return True
    return False


def walked(web, run):
    """Return the web after a run."""
    if len(run) > MOST_DEEDS:
        raise TooMany(len(run))
    counts = counted(web.bundles)
    index = carried_out(web, counts, run)
    if index is not None:
        raise BadRow(index)
    return rebuilt(web, counts)
