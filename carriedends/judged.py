"""Whether runs are right."""

from carriedends.carrying import carried_out
from carriedends.runs import MOST_DEEDS
from carriedends.webs import counted, rebuilt


def run_right(web, run, goal):
    """Return whether run, which may be any value, is a run that leads from web to goal."""
    if not isinstance(run, tuple) or len(run) > MOST_DEEDS:
        return False
    counts = counted(web.bundles)
    if carried_out(web, counts, run) is not None:
        return False
    return rebuilt(web, counts) == goal
