"""Runs to normal forms, and between joined webs."""

from carriedends.deeds import turned
from carriedends.errors import NotJoined, Wide
from carriedends.ledger import joined, ledger, views
from carriedends.settling import settled
from carriedends.webs import handy


def _run_to_normal(web):
    """Return a run to the normal form, lot by lot, under "own" coat by coat."""
    table = ledger(web)
    parts = table if web.rule == "own" else (table,)
    deeds = []
    for rows, view in zip(parts, views(web)):
        for row in rows:
            if row[0] == "free":
                deeds.extend(settled(web.wheel, web.rule, row, view[1]))
    return tuple(deeds)


def normal_run(web):
    """Return a run from a web to its normal form."""
    if not handy(web):
        raise Wide(0)
    return _run_to_normal(web)


def run_between(one, other):
    """Return a run from one web to another that is joined with it."""
    are_joined = joined(one, other)
    if not handy(one):
        raise Wide(0)
    if not handy(other):
        raise Wide(1)
    if not are_joined:
        raise NotJoined(0)
    if one == other:
        return ()
    return (*_run_to_normal(one), *turned(one.wheel, _run_to_normal(other)))
