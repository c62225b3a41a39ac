"""The exchange of two unlike threads."""

from carriedends.rests import remainder


def exchange_deeds(wheel, p, x, lx, a, y, ly, b, *, j=1):
    """Return the deeds by which j threads between p and x and one thread between p and y change their places.

    lx and ly are the lengths from p, a and b the coats.
    """
    from_x_to_p = remainder(-lx, wheel)
    from_p_to_y = remainder(ly, wheel)
    from_y_to_x = remainder(lx - ly, wheel)
    return (
        ("carry", x, p, from_x_to_p, a, y, from_p_to_y, b, j),
        ("carry", p, y, from_p_to_y, b, x, from_y_to_x, a, 1),
        ("carry", y, x, from_y_to_x, a, p, from_x_to_p, b, j),
    )
