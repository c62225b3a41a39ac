"""Free lots led to their normal forms.

A lot is gathered; like threads shrink to single ones; the excesses of the spare threads are led together into one
spare thread, by which each height is brought to its place; coats are given out last.
"""

from math import gcd

from carriedends.gathering import gathered
from carriedends.lots import lying_in
from carriedends.normal import row_threads
from carriedends.rests import remainder
from carriedends.stars import Star
from carriedends.webs import counted


def _elsewhere(star, place):
    """Return the greatest place of a star but this one."""
    return [other for other in reversed(star.lot[1:]) if other != place][0]


def _send_group(star, thread, place):
    """Make all threads like one keepers or spare threads of no excess at another place, but for a single one."""
    partner = star.claim(star.keeper_at(place), star.unlike_coats(thread[2]), [])
    star.exchange(thread, partner, star.threads[thread])


def _shrink(star):
    """Leave single threads alone where there is an excess, and send all others to be spare threads of none."""
    groups = _groups_of_excess(star)
    while groups:
        _send_group(star, groups[0], _elsewhere(star, groups[0][0]))
        groups = _groups_of_excess(star)


def _groups_of_excess(star):
    """Return the threads with an excess of which there are several."""
    return [thread for thread in sorted(star.threads) if star.threads[thread] > 1 and star.excess_of(thread[:2])]


def _how_many_at(star, position):
    """Return how many threads there are at a position."""
    return sum([star.threads[thread] for thread in star.lying_at(position)])


def _collect(star, place):
    """Lead all spare threads of no excess to one place."""
    for other in star.lot[1:]:
        position = star.keeper_at(other)
        while other != place and _how_many_at(star, position) > 1:
            groups = [(star.threads[thread], thread) for thread in star.lying_at(position)]
            count, thread = max(groups)
            if count > 1:
                _send_group(star, thread, place)
            else:
                star.walk(position, place)


def _spares_of_excess(star):
    """Return the positions of the threads with an excess, each as often as it has threads."""
    found = []
    for thread in sorted(star.threads):
        if star.excess_of(thread[:2]):
            found.extend([thread[:2]] * star.threads[thread])
    return found


def _lessened(star, position, spare):
    """Lead a thread round a spare thread until its excess is as small as can be; return its position then."""
    excess = star.excess_of(position)
    least = remainder(excess, gcd(star.wheel, star.excess_of(spare)))
    return star.lengthen(position, spare, least - excess)


def _merged(star, one, other):
    """Lead the excesses of two spare threads into one of them; return where that one is."""
    if one[0] == other[0]:
        other = star.walk(other, _elsewhere(star, one[0]))
    while star.excess_of(other):
        one, other = other, _lessened(star, one, other)
    return one


def _single_spare(star):
    """Lead the excesses of all spare threads into one of them; return where that one is, () if none has any."""
    left = _spares_of_excess(star)
    if not left:
        return ()
    spare = left[0]
    for other in left[1:]:
        spare = _merged(star, spare, other)
    return spare


def _targets(star, row, spare):
    """Return a dict of the lengths that the keepers shall have, when the spare thread lies at another place than t.

    The last part is for one spare alone: if it comes to t with the excess -ring, it and the keeper change names.
    """
    lot, ring, found = row[1], row[5], row[6]
    lengths = {place: height for place, height in zip(lot[1:], found[1:])}
    if ring is not None and remainder(-star.excess_of(spare), star.wheel) != ring:
        lengths[lot[1]] = remainder(found[1] + ring, star.wheel)
    return lengths


def _set_keeper(star, place, length, spare):
    """Bring the keeper of a place, which has no spare threads, to a length by rounds of a spare thread elsewhere."""
    star.lengthen(star.keeper_at(place), spare, length - star.keepers[place])
    star.keepers[place] = length


def _raise_all(star, row, spare):
    """Bring all keepers to their lengths and spare threads of no excess to t; return where the other spare then is.

    That is t if it is the only one, else the place where it was, which is not t.
    """
    t, home = star.lot[1], spare[0]
    lengths = _targets(star, row, spare)
    _collect(star, home)
    for place in star.lot[1:]:
        if place != home:
            _set_keeper(star, place, lengths[place], spare)
    _collect(star, t)
    spare = star.walk(spare, t)
    _set_keeper(star, home, lengths[home], spare)
    return spare if row[3] == 1 else star.walk(spare, home)


def _give_measure(star, spare, common):
    """Give a spare thread at t the measure as its excess, by the spare thread elsewhere, which loses its own."""
    t = star.lot[1]
    first = star.lengthen(star.keeper_at(t), spare, common)
    spare = star.lengthen(spare, first, -star.excess_of(spare))
    star.walk(spare, t)


def _level(star, row):
    """Bring all threads to the positions that they have in the normal form."""
    t = star.lot[1]
    spare = _single_spare(star)
    if not spare:
        _collect(star, t)
        return
    if spare[0] == t:
        spare = star.walk(spare, _elsewhere(star, t))
    spare = _raise_all(star, row, spare)
    if row[3] > 1:
        _give_measure(star, spare, row[4])


def _deal(star, due):
    """Give out coats, when all threads are at their positions already.

    Only one position may have several threads: it has the right ones as soon as all others have.
    """
    taken = []
    for thread in sorted(due):
        taken.append(star.claim(thread[:2], [thread[2]], taken))


def settled(wheel, rule, row, bundles):
    """Return deeds that lead a free lot, in which these bundles lie, to the normal form of its row.

    A lot of one coat under "own" is led as under "all".
    """
    lot = row[1]
    counts = counted(lying_in(lot, bundles))
    leading = "others" if rule == "others" else "all"
    deeds = gathered(wheel, leading, lot, counts)
    star = Star(wheel, leading, lot, counts)
    _shrink(star)
    _level(star, row)
    _deal(star, row_threads(wheel, row))
    return [*deeds, *star.deeds]
