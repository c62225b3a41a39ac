"""Whether values that may be anything have the plain forms that are asked for."""


def is_number(thing):
    """Return whether thing is an int that is neither True nor False."""
    return isinstance(thing, int) and not isinstance(thing, bool)


def are_numbers(thing, length):
    """Return whether thing is a tuple of just so many numbers."""
    return isinstance(thing, tuple) and len(thing) == length and all([is_number(part) for part in thing])
