"""Deeds by themselves: their forms, their slides, and the deeds that take them back.

A carry deed is ("carry", u, v, length, coat, w, rail, railcoat, j), a round deed is
("round", u, v, length, coat, w, out, outcoat, back, backcoat, j, q).
"""

from carriedends.forms import are_numbers
from carriedends.rests import check_wheel, remainder
from carriedends.threads import laid, seen_from

ROUNDS_BOUND = 10_000_000_000_000_000_000_000_000_000_000_000_000_000


def is_deed(thing):
    """Return whether thing is a deed by form; its lengths may be any numbers."""
    if not isinstance(thing, tuple):
        return False
    if len(thing) == 9:
        return thing[0] == "carry" and are_numbers(thing[1:], 8) and thing[8] >= 1
    if len(thing) == 12:
        return (
            thing[0] == "round"
            and are_numbers(thing[1:], 11)
            and thing[10] >= 1
            and 1 <= thing[11] < ROUNDS_BOUND
        )
    return False


def lengths_of(deed):
    """Return the lengths in a deed."""
    if deed[0] == "carry":
        return (deed[3], deed[6])
    return (deed[3], deed[6], deed[8])


def how_many(deed):
    """Return how many threads a deed carries."""
    return deed[8] if deed[0] == "carry" else deed[10]


def thread_before(wheel, deed):
    """Return the thread that a deed carries, as it lies before."""
    _, u, v, length, coat = deed[:5]
    return laid(u, v, length, coat, wheel)


def thread_after(wheel, deed):
    """Return the thread that a deed carries, as it lies afterwards."""
    _, u, v, length, coat, w = deed[:6]
    if deed[0] == "carry":
        return laid(u, w, remainder(length + deed[6], wheel), coat, wheel)
    return laid(u, v, remainder(length + deed[11] * (deed[6] + deed[8]), wheel), coat, wheel)


def rails_of(wheel, deed):
    """Return the threads along which a deed carries."""
    v, w, rail, railcoat = deed[2], deed[5], deed[6], deed[7]
    if deed[0] == "carry":
        return (laid(v, w, rail, railcoat, wheel),)
    return (laid(v, w, rail, railcoat, wheel), laid(w, v, deed[8], deed[9], wheel))


def carry_along(wheel, v, thread, rail, j):
    """Return the deed that carries the end at v of j such threads along the rail, which has an end at v, too."""
    u, length_to_u, coat = seen_from(v, thread, wheel)
    w, rail_length, railcoat = seen_from(v, rail, wheel)
    return ("carry", u, v, remainder(-length_to_u, wheel), coat, w, rail_length, railcoat, j)


def _back_of_carry(wheel, deed):
    """Return the carry deed that takes one back."""
    _, u, v, length, coat, w, rail, railcoat, j = deed
    return ("carry", u, w, remainder(length + rail, wheel), coat, v, remainder(-rail, wheel), railcoat, j)


def _back_of_round(wheel, deed):
    """Return the round deed that takes one back: the same way, from its end to its beginning."""
    _, u, v, length, coat, w, out, outcoat, back, backcoat, j, q = deed
    final = remainder(length + q * (out + back), wheel)
    return (
        "round", u, v, final, coat, w, remainder(-back, wheel), backcoat, remainder(-out, wheel), outcoat, j, q
    )


def back_of(wheel, deed):
    """Return the deed that takes a granted deed back."""
    check_wheel(wheel)
    return _back_of_carry(wheel, deed) if deed[0] == "carry" else _back_of_round(wheel, deed)


def slides_of(run):
    """Return the sum of the slides of the deeds of a run."""
    return sum([deed[8] if deed[0] == "carry" else 2 * deed[11] * deed[10] for deed in run])


def turned(wheel, run):
    """Return the run that takes a granted run back."""
    check_wheel(wheel)
    return tuple([back_of(wheel, deed) for deed in reversed(run)])
