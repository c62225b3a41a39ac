"""Lots gathered: all their threads led to their least places."""

from carriedends.carrying import carry_out
from carriedends.deeds import carry_along
from carriedends.errors import BadPlace, Wide
from carriedends.lots import is_free, lots, lying_in
from carriedends.pairs import exchange_deeds
from carriedends.threads import laid, seen_from, unlike
from carriedends.webs import counted, handy


def _at(place, counts):
    """Return the threads that have an end at a place, ascending."""
    return [thread for thread in sorted(counts) if place in thread[:2]]


def _between(one, other, counts):
    """Return the threads between two places, ascending."""
    return [thread for thread in _at(one, counts) if other in thread[:2]]


def _pair_at(place, counts):
    """Return two threads of different coats that lead from a place to different places, () if there are none."""
    threads = _at(place, counts)
    for one in threads:
        for other in threads:
            if one[3] != other[3] and one[:2] != other[:2]:
                return (one, other)
    return ()


def _next_places(s, counts):
    """Return a dict that has for each place that hangs together with s the next one on a shortest way to s."""
    nexts = {s: s}
    reached = [s]
    while reached:
        further = []
        for place in reached:
            for u, v, _, _ in _at(place, counts):
                other = v if u == place else u
                if other not in nexts:
                    nexts[other] = place
                    further.append(other)
        reached = further
    return nexts


def _pair_step(wheel, place, onward, counts):
    """Return a deed after which a pair of unlike threads that was at a place is at the next place onward."""
    one, other = _pair_at(place, counts)
    if onward in one[:2]:
        moved, rail = other, one
    elif onward in other[:2]:
        moved, rail = one, other
    else:
        rail = _between(place, onward, counts)[0]
        moved = one if one[3] != rail[3] else other
    return carry_along(wheel, place, moved, rail, counts[moved])


def _lead_pair(wheel, lot, counts):
    """Change counts until two unlike threads lead from the least place to different places; return the deeds."""
    deeds = []
    place = [start for start in lot if _pair_at(start, counts)][0]
    while place != lot[0]:
        # No deed makes the way longer that is left: what is carried away from a place lies off that way.
        onward = _next_places(lot[0], counts)[place]
        deed = _pair_step(wheel, place, onward, counts)
        carry_out(wheel, counts, deed)
        deeds.append(deed)
        place = onward
    return deeds


def _deeds_home(wheel, rule, s, x, thread, counts):
    """Return deeds that carry the end at x of all such threads to s, where a thread lies between x and s."""
    rails = _between(s, x, counts)
    fitting = [rail for rail in rails if unlike(rule, thread[3], rail[3])]
    if fitting:
        return (carry_along(wheel, x, thread, fitting[0], counts[thread]),)
    # All rails have the coat of the thread, so a thread of another coat at s leads elsewhere: it is brought to x.
    partner = [other for other in _at(s, counts) if other[3] != thread[3]][0]
    _, rail_length, railcoat = seen_from(s, rails[0], wheel)
    y, length, coat = seen_from(s, partner, wheel)
    exchange = exchange_deeds(wheel, s, x, rail_length, railcoat, y, length, coat)
    brought = laid(s, x, rail_length, coat, wheel)
    return (*exchange, carry_along(wheel, x, thread, brought, counts[thread]))


def _next_deeds(wheel, rule, s, counts):
    """Return deeds that carry threads of one bundle to s, () if all threads lie at s."""
    nexts = _next_places(s, counts)
    near = [place for place in nexts if nexts[place] == s]
    for thread in sorted(counts):
        if s not in thread[:2]:
            ends = [place for place in thread[:2] if place in near]
            if ends:
                return _deeds_home(wheel, rule, s, ends[0], thread, counts)
    return ()


def gathered(wheel, rule, lot, counts):
    """Change counts, which has the threads of a free lot alone, until the lot is gathered; return the deeds."""
    deeds = _lead_pair(wheel, lot, counts) if rule == "others" else []
    coming = _next_deeds(wheel, rule, lot[0], counts)
    while coming:
        for deed in coming:
            carry_out(wheel, counts, deed)
        deeds.extend(coming)
        coming = _next_deeds(wheel, rule, lot[0], counts)
    return deeds


def gather_run(web, lot):
    """Return a run after which all threads of a free lot lie at its least place."""
    if not handy(web):
        raise Wide(0)
    if web.rule == "own" or lot not in lots(web):
        raise BadPlace(0)
    bundles = lying_in(lot, web.bundles)
    if not is_free(web.rule, lot, bundles):
        raise BadPlace(0)
    return tuple(gathered(web.wheel, web.rule, lot, counted(bundles)))
