"""How many webs of a class are how many slides away."""

from carriedends.searching import check_searched, spread


def balls(web):
    """Return for 0, 1, 2 .. how many webs of the class are just so many slides away from a web."""
    check_searched(web)
    numbers = []
    for distance, _, _ in spread(web).values():
        if distance == len(numbers):
            numbers.append(0)
        numbers[distance] += 1
    return tuple(numbers)
