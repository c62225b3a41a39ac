"""Numbers of bags of arrows, and how many can be come to from one."""

from carriedends.arrowlots import free_lots, outs_of
from carriedends.arrows import MOST_ARROW_PLACES, MOST_ARROWS
from carriedends.choosing import bags
from carriedends.errors import BadCount, BadSize


def _all_bags(outs, chosen):
    """Return the number of all bags of arrows between the chosen places of which so many leave each of them.

    A set of places is told by a number: place p is one of them if the bit of 2 to the power of p is set.
    """
    leaving = [out for place, out in enumerate(outs) if chosen >> place & 1]
    number = 1
    for out in leaving:
        number *= bags(len(leaving) - 1, out)
    return number


def _hanging_bags(outs):
    """Return the number of bags of which so many arrows leave each place and that hang all the places together."""
    full = (1 << len(outs)) - 1
    totals = [_all_bags(outs, some) for some in range(full + 1)]
    hung = {}
    # All sets that are needed have the place 0. The other places of a part of them go down through all that there are.
    for chosen in range(1, full + 1, 2):
        number = totals[chosen]
        others = chosen - 1
        while others:
            others = (others - 1) & (chosen - 1)
            number -= hung[others + 1] * totals[chosen - others - 1]
        hung[chosen] = number
    return hung[full]


def connected_arrows(outs):
    """Return the number of bags of which outs[x] arrows leave the place x and that hang all the places together."""
    if not 1 <= len(outs) <= MOST_ARROW_PLACES:
        raise BadSize(len(outs))
    for index, out in enumerate(outs):
        if not 0 <= out <= MOST_ARROWS:
            raise BadCount(index)
    return _hanging_bags(outs)


def arrow_class_size(arrows):
    """Return how many bags of arrows can be come to from one, itself included."""
    size = 1
    for lot in free_lots(arrows):
        size *= _hanging_bags(outs_of(lot, arrows.bundles))
    return size
