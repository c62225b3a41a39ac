"""Lots: the sets of places that hang together."""

from carriedends.webs import check_coat


def hanging(n, ties):
    """Return the sets of the n places that hang together, by their least places.

    A tie begins with two places, which it hangs together; what else it holds is not looked at.
    """
    # Each place bears the least place that it is known to hang together with.
    labels = list(range(n))
    for tie in ties:
        one, other = labels[tie[0]], labels[tie[1]]
        if one != other:
            low, high = min(one, other), max(one, other)
            labels = [low if label == high else label for label in labels]
    firsts = [place for place in range(n) if labels[place] == place]
    return tuple([tuple([place for place in range(n) if labels[place] == first]) for first in firsts])


def lots(web):
    """Return the lots by threads of any coat, by their least places."""
    return hanging(web.n, web.bundles)


def _of_coat(web, coat):
    """Return the bundles of one coat, ascending."""
    return tuple([bundle for bundle in web.bundles if bundle[3] == coat])


def coat_lots(web, c):
    """Return the lots by the threads of the coat c alone, by their least places."""
    check_coat(web, c)
    return hanging(web.n, _of_coat(web, c))


def lots_and_bundles(web, coat):
    """Return the lots by the threads looked at, and their bundles: for the coat -1 all, else those of the coat.

    Any other coat that the web does not have is refused by coat_lots.
    """
    if coat == -1:
        return (lots(web), web.bundles)
    return (coat_lots(web, coat), _of_coat(web, coat))


def lying_in(lot, bundles):
    """Return the bundles that lie in one of the lots by these bundles."""
    return tuple([bundle for bundle in bundles if bundle[0] in lot])


def is_free(rule, lot, bundles):
    """Return whether a lot in which these bundles lie is free.

    Under "own" the bundles are those of one coat.
    """
    if len(lot) < 3:
        return False
    return rule != "others" or len({bundle[3] for bundle in bundles}) > 1
