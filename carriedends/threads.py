"""Threads between two places."""

from carriedends.rests import rest


def laid(u, v, length, coat, wheel):
    """Return the thread with its lesser place first; length is the one from u to v."""
    if u < v:
        return (u, v, length, coat)
    return (v, u, rest(-length, wheel), coat)
