"""Spare threads that walk from place to place in a gathered lot."""

from carriedends.rests import remainder


def walk_deeds(wheel, s, x, hx, cx, y, hy, cy, length, coat):
    """Return the deeds by which a spare thread that leads from s to x comes to lead to y.

    hx, cx and hy, cy are lengths from s and coats of the keepers of x and y.
    """
    return (
        ("carry", x, s, remainder(-length, wheel), coat, y, remainder(hy, wheel), cy, 1),
        ("carry", y, x, remainder(length - hy, wheel), coat, s, remainder(-hx, wheel), cx, 1),
    )
