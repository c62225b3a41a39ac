"""Papers that show that two webs are not joined."""

from carriedends.errors import NotJoined
from carriedends.forms import are_numbers, is_number
from carriedends.heights import surveyed
from carriedends.ledger import check_alike
from carriedends.lots import is_free, lots_and_bundles, lying_in
from carriedends.rests import lesser, remainder

ALL_COATS = -1


def _many_of(coat, bundles):
    """Return how many threads of a coat there are in bundles."""
    return sum([bundle[4] for bundle in bundles if bundle[3] == coat])


def _ring(wheel, lot, bundles):
    """Return the ring of a lot in which these bundles lie, None unless it has just one spare."""
    if sum([bundle[4] for bundle in bundles]) != len(lot):
        return None
    return lesser(surveyed(wheel, lot, bundles)[1], wheel)


def _agree(lot, common, found, bundles):
    """Return whether all threads in a lot agree with heights by a number."""
    heights = {place: height for place, height in zip(lot, found)}
    gaps = [length + heights[u] - heights[v] for u, v, length, _, _ in bundles]
    return all([remainder(gap, common) == 0 for gap in gaps])


def _height_paper(wheel, lot, bundles, others):
    """Return the paper of heights that part a free lot of two webs, () if none do."""
    common, _, found = surveyed(wheel, lot, bundles)
    if not _agree(lot, common, found, others):
        return ("height", lot, common, found)
    common, _, found = surveyed(wheel, lot, others)
    if not _agree(lot, common, found, bundles):
        return ("height", lot, common, found)
    return ()


def _lot_paper(web, lot, bundles, others):
    """Return the paper for a lot of two webs in which these bundles and those others lie, () if there is none."""
    if not (is_free(web.rule, lot, bundles) and is_free(web.rule, lot, others)):
        return ("stuck", lot) if bundles != others else ()
    for coat in range(web.coats):
        if _many_of(coat, bundles) != _many_of(coat, others):
            return ("coat", lot, coat)
    paper = _height_paper(web.wheel, lot, bundles, others)
    if paper:
        return paper
    if _ring(web.wheel, lot, bundles) != _ring(web.wheel, lot, others):
        return ("ring", lot)
    return ()


def _first_paper(one, other, coat):
    """Return the paper that is due by the threads looked at, () if they part nothing."""
    known, bundles = lots_and_bundles(one, coat)
    others_known, others = lots_and_bundles(other, coat)
    for place in range(one.n):
        lot = [lot for lot in known if place in lot][0]
        if lot not in others_known:
            return ("lot", lot)
    for lot in known:
        paper = _lot_paper(one, lot, lying_in(lot, bundles), lying_in(lot, others))
        if paper:
            return paper
    return ()


def parting(one, other):
    """Return the paper that shows that two alike webs are not joined."""
    check_alike(one, other)
    if one.rule != "own":
        paper = _first_paper(one, other, ALL_COATS)
        if paper:
            return paper
    else:
        for coat in range(one.coats):
            paper = _first_paper(one, other, coat)
            if paper:
                return (*paper, "own", coat)
    raise NotJoined(1)


def _are_alike(one, other):
    """Return whether webs have the same places, wheel, coats and rule."""
    return (
        one.n == other.n and one.wheel == other.wheel and one.coats == other.coats and one.rule == other.rule
    )


def _is_coat(web, thing):
    """Return whether thing is a coat of a web."""
    return is_number(thing) and 0 <= thing < web.coats


def _is_measure(wheel, thing):
    """Return whether heights may part webs by thing."""
    if not is_number(thing):
        return False
    if wheel == 0:
        return thing == 0 or thing >= 2
    return thing >= 2 and remainder(wheel, thing) == 0


def _parts_stuck(web, lot, bundles, others):
    """Return whether a paper "stuck" is right for a lot of both webs."""
    either_stuck = not (is_free(web.rule, lot, bundles) and is_free(web.rule, lot, others))
    return either_stuck and bundles != others


def _parts_heights(wheel, lot, said, bundles, others):
    """Return whether a measure and heights that are said part a lot of both webs."""
    common, found = said
    if not _is_measure(wheel, common) or not are_numbers(found, len(lot)):
        return False
    return _agree(lot, common, found, bundles) != _agree(lot, common, found, others)


def _parts_rings(wheel, lot, bundles, others):
    """Return whether a lot of both webs has rings that differ."""
    ring, other_ring = _ring(wheel, lot, bundles), _ring(wheel, lot, others)
    return ring is not None and other_ring is not None and ring != other_ring


def _said_of_lot(web, lot, words, bundles, others):
    """Return whether what a paper says of a lot of both webs holds; words are its parts but the places."""
    kind, said = words[0], words[1:]
    if kind == "stuck" and len(said) == 0:
        return _parts_stuck(web, lot, bundles, others)
    if kind == "coat" and len(said) == 1:
        return _is_coat(web, said[0]) and _many_of(said[0], bundles) != _many_of(said[0], others)
    if kind == "height" and len(said) == 2:
        return _parts_heights(web.wheel, lot, said, bundles, others)
    if kind == "ring" and len(said) == 0:
        return _parts_rings(web.wheel, lot, bundles, others)
    return False


def _is_right(one, other, paper, coat):
    """Return whether a paper holds by the threads of a coat, or by all of them; it has no "own" any more."""
    if len(paper) < 2:
        return False
    # What is a lot of either web is a tuple of its places, strictly ascending.
    lot = paper[1]
    known, bundles = lots_and_bundles(one, coat)
    others_known, others = lots_and_bundles(other, coat)
    if paper[0] == "lot" and len(paper) == 2:
        return (lot in known) != (lot in others_known)
    if lot not in known or lot not in others_known:
        return False
    return _said_of_lot(one, lot, (paper[0], *paper[2:]), lying_in(lot, bundles), lying_in(lot, others))


def parting_right(one, other, paper):
    """Return whether paper, which may be any value, shows that two webs are not joined."""
    if not _are_alike(one, other) or not isinstance(paper, tuple):
        return False
    if one.rule != "own":
        return _is_right(one, other, paper, ALL_COATS)
    if len(paper) < 4 or paper[-2] != "own" or not _is_coat(one, paper[-1]):
        return False
    return _is_right(one, other, paper[:-2], paper[-1])
