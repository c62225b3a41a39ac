"""Arrows of a gathered lot led from place to place.

counts has the arrows of one free lot alone, s is its least owner. A lot is gathered if each other owner has an arrow
to s, its home arrow. Each function returns deeds; all other arrows are at the end where they were.
"""

from carriedends.arrowdeeds import arrow_turned, carry_heads


def _reached(s, barred, counts):
    """Return a dict of the places that hang together with s without the barred one: for each the next on a way to s."""
    nexts = {s: s}
    waiting = [s]
    while waiting:
        place = waiting.pop()
        for u, v in sorted(counts):
            other = v if u == place else u
            if place in (u, v) and other != barred and other not in nexts:
                nexts[other] = place
                waiting.append(other)
    return nexts


def home_deeds(s, u, counts):
    """Return deeds after which an arrow of another owner u leads to s; the lot need not be gathered.

    No arrow to s is carried away from it.
    """
    nexts = _reached(s, u, counts)
    heads = [head for owner, head in sorted(counts) if owner == u]
    near = [head for head in heads if head in nexts]
    deeds = []
    if near:
        place = near[0]
    else:
        # Only through u itself its heads hang together with s: an arrow to u ties one of them to the places near s.
        place = [owner for owner, head in sorted(counts) if head == u and owner in nexts][0]
        deeds = [(place, u, heads[0], 1), (u, heads[0], place, 1)]
    while place != s:
        deeds.append((u, place, nexts[place], 1))
        place = nexts[place]
    return tuple(deeds)


def _moved(counts, u, v, w, j):
    """Return the counts after j arrows from u to v have come to lead to w."""
    after = {arrow: counts[arrow] for arrow in counts}
    carry_heads(after, (u, v, w, j))
    return after


def _by_a_guest(s, u, v, j, counts):
    """Return deeds that lead j arrows from u to s, if no other owner's arrows lead to v, but more than j of u do."""
    y = [head for owner, head in sorted(counts) if owner == s][0]
    guest = ((s, u, v, 1), (u, v, s, j), (s, v, u, 1))
    if y == u:
        return guest
    # An arrow of s comes by u as a guest to v: u's home arrow goes to meet it.
    return ((u, s, y, 1), (s, y, u, 1), *guest, (s, u, y, 1), (u, y, s, 1))


def _led_home(s, u, v, j, counts):
    """Return deeds after which j arrows from another owner u to v lead to s.

    If v is a sink, another arrow leads to it, too.
    """
    if (v, s) in counts or (s, v) in counts:
        return ((u, v, s, j),)
    givers = [owner for owner, head in sorted(counts) if head == v and owner != u]
    if givers:
        return ((u, v, givers[0], j), (u, givers[0], s, j))
    return _by_a_guest(s, u, v, j, counts)


def _to_owner(s, v, o, j, counts):
    """Return deeds after which j arrows from s to v lead to another owner o, which is not v.

    If v is a sink, another arrow leads to it, too.
    """
    if (v, o) in counts or (o, v) in counts:
        return ((s, v, o, j),)
    if (v, s) in counts or counts[s, v] > j:
        return ((o, s, v, 1), (s, v, o, j), (o, v, s, 1))
    x = [owner for owner, head in sorted(counts) if head == v and owner != s][0]
    return ((s, v, x, j), *_to_owner(s, x, o, j, counts))


def _led_elsewhere(s, v, w, j, counts):
    """Return deeds after which j arrows from s to v lead to w; if v is a sink, another arrow leads to it, too."""
    o = [owner for owner, _ in sorted(counts) if owner != s][0]
    there = () if o == v else _to_owner(s, v, o, j, counts)
    # From the owner on it is the way that would lead from w to the owner, taken back.
    onward = () if o == w else arrow_turned(_to_owner(s, w, o, j, _moved(counts, s, v, w, j)))
    return (*there, *onward)


def led(s, u, v, w, j, counts):
    """Return deeds after which j arrows from u to v lead to w. For another owner u than s, s is one of v and w.

    If v is a sink, another arrow leads to it, too; if v is s, u has more than j arrows to s.
    """
    if u == s:
        return _led_elsewhere(s, v, w, j, counts)
    if w == s:
        return _led_home(s, u, v, j, counts)
    return arrow_turned(_led_home(s, u, w, j, _moved(counts, u, s, w, j)))


def swap_deeds(s, a, y, b, z):
    """Return deeds after which an arrow from a to a sink y leads to z, and one from b to another sink z leads to y."""
    if a == s:
        return ((b, s, y, 1), (s, y, b, 1), (s, b, z, 1), (b, z, s, 1))
    if b == s:
        return swap_deeds(s, s, z, a, y)
    return ((b, s, a, 1), (b, a, y, 1), (a, y, b, 1), (a, b, z, 1), (b, z, a, 1), (b, a, s, 1))
