"""Where runs fail."""

from carriedends.carrying import carried_out
from carriedends.errors import TooMany
from carriedends.runs import MOST_DEEDS
from carriedends.webs import counted


def fixed_at(web, run):
    """Return the index of the first deed of a run that is refused, None if none is."""
    if len(run) > MOST_DEEDS:
        raise TooMany(len(run))
    return carried_out(web, counted(web.bundles), run)
