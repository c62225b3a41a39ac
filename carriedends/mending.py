"""Runs that may fail, made into runs to a goal."""

from carriedends.carrying import carry_out, fault_of
from carriedends.errors import TooMany
from carriedends.ledger import check_alike
from carriedends.normalrun import run_between
from carriedends.webs import counted, rebuilt

MOST_MENDED = 5000


def mended(web, run, goal):
    """Return the deeds of a run that are granted, each after those before it, and then a run to the goal."""
    if len(run) > MOST_MENDED:
        raise TooMany(len(run))
    check_alike(web, goal)
    counts = counted(web.bundles)
    kept = []
    for deed in run:
        if fault_of(web, counts, deed) is None:
            carry_out(web.wheel, counts, deed)
            kept.append(deed)
    return (*kept, *run_between(rebuilt(web, counts), goal))
