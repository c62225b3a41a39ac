"""How many threads of one web are not in another."""

from carriedends.ledger import check_alike
from carriedends.webs import counted


def apart(one, other):
    """Return the number of threads of one that are not in the other, equal threads counted each."""
    check_alike(one, other)
    theirs = counted(other.bundles)
    return sum([max(0, bundle[4] - theirs.get(bundle[:4], 0)) for bundle in one.bundles])
