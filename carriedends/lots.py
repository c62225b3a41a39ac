"""Lots: the sets of places that hang together."""

from carriedends.webs import check_coat


def hanging(n, ties):
    """Return the sets of the n places that hang together, by their least places.

    A tie begins with two places, which it hangs together; what else it holds is not looked at.
    """
    # Each place bears the least place that it is known to hang together with.
    labels = list(range(n))
    for tie in ties:
        one, other = labels[tie[0]], labels[tie[1]]
        if one != other:
            low, high = min(one, other), max(one, other)
            labels = [low if label == high else label for label in labels]
    firsts = [place for place in range(n) if labels[place] == place]
    return tuple([tuple([place for place in range(n) if labels[place] == first]) for first in firsts])


def lots(web):
    """Return the lots by threads of any coat, by their least places."""
    return hanging(web.n, web.bundles)


def coat_lots(web, c):
    """Return the lots by the threads of the coat c alone, by their least places."""
    check_coat(web, c)
    return hanging(web.n, [bundle for bundle in web.bundles if bundle[3] == c])
