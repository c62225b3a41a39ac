"""Threads that go round a spare thread in a gathered lot."""

from carriedends.errors import BadCount
from carriedends.rests import remainder


def round_deed(wheel, s, z, l, c, x, hx, cx, length, coat, *, q=1):
    """Return the deed that leads a thread at z round a spare thread at x, q times, for q < 0 the other way about.

    l and c are length from s and coat of the thread, hx and cx of the keeper of x, length and coat of the spare.
    """
    if q == 0:
        raise BadCount(0)
    from_z_to_s = remainder(-l, wheel)
    if q > 0:
        return ("round", z, s, from_z_to_s, c, x, remainder(hx, wheel), cx, remainder(-length, wheel), coat, 1, q)
    return ("round", z, s, from_z_to_s, c, x, remainder(length, wheel), coat, remainder(-hx, wheel), cx, 1, -q)
