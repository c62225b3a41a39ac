"""What a floor is asked about its web and its mark."""

from carriedends.classsize import class_size
from carriedends.ledger import joined
from carriedends.nopapers import parting
from carriedends.normalrun import run_between


def can_go_home(floor):
    """Return whether the web is joined with the mark."""
    return joined(floor.web(), floor.marked())


def way_home(floor):
    """Return a run from the web to the mark."""
    return run_between(floor.web(), floor.marked())


def why_not(floor):
    """Return the paper that shows that the web is not joined with the mark."""
    return parting(floor.web(), floor.marked())


def kin(floor):
    """Return how many webs can be come to from the web, None if it is endless."""
    return class_size(floor.web())
