"""Threads between two places."""

from carriedends.rests import remainder


def laid(u, v, length, coat, wheel):
    """Return the thread with its lesser place first; length is the one from u to v."""
    if u < v:
        return (u, v, length, coat)
    return (v, u, remainder(-length, wheel), coat)


def seen_from(place, thread, wheel):
    """Return where a laid thread leads from one of its two places, its length that way, and its coat."""
    u, v, length, coat = thread
    if u == place:
        return (v, length, coat)
    return (u, remainder(-length, wheel), coat)


def unlike(rule, coat, other):
    """Return whether the rule lets threads of these two coats be carried along one another."""
    if rule == "others":
        return coat != other
    return rule == "all" or coat == other
