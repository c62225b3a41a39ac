"""Fewest slides, and runs of fewest slides."""

from carriedends.errors import BadPlace
from carriedends.lots import lots, lying_in
from carriedends.searching import check_pair, spread


def fewest(one, other):
    """Return the least number of slides that lead from one web to another."""
    check_pair(one, other)
    return spread(one)[other.bundles][0]


def nearest_run(one, other):
    """Return a run of fewest slides from one web to another."""
    check_pair(one, other)
    found = spread(one)
    bundles = other.bundles
    slides = []
    while bundles != one.bundles:
        _, slide, bundles = found[bundles]
        slides.append(slide)
    return tuple(reversed(slides))


def gather_count(web, lot):
    """Return the fewest slides after which all threads of a free lot under "all" lie at its least place."""
    if web.rule != "all" or lot not in lots(web) or len(lot) < 3:
        raise BadPlace(0)
    return sum([bundle[4] for bundle in lying_in(lot, web.bundles) if lot[0] not in bundle[:2]])
