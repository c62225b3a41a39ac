"""Webs: bags of threads between places."""

from carriedends.errors import BadBundle, BadCoats, BadPlace, BadRule, BadSize, Refused, TooMany
from carriedends.forms import are_numbers
from carriedends.rests import check_wheel
from carriedends.threads import laid

RULES = ("all", "others", "own")
MOST_PLACES = 20
MOST_COATS = 4
MOST_BUNDLES = 30
MOST_THREADS = 1_000_000_000
LENGTH_BOUND = 1_000_000_000_000


class Web:
    """A bag of threads; its bundles are strictly ascending and are not checked here."""

    def __init__(self, n, wheel, coats, rule, bundles):
        self.n = n
        self.wheel = wheel
        self.coats = coats
        self.rule = rule
        self.bundles = bundles

    def __eq__(self, other):
        return (
            isinstance(other, Web)
            and self.n == other.n
            and self.wheel == other.wheel
            and self.coats == other.coats
            and self.rule == other.rule
            and self.bundles == other.bundles
        )


def check_frame(n, wheel, coats, rule):
    """Raise the error that is due unless a web may have these places, wheel, coats and rule."""
    if not 1 <= n <= MOST_PLACES:
        raise BadSize(n)
    check_wheel(wheel)
    if not 1 <= coats <= MOST_COATS:
        raise BadCoats(coats)
    if rule not in RULES:
        raise BadRule(rule)


def is_frame(n, wheel, coats, rule):
    """Return whether a web may have these places, wheel, coats and rule."""
    try:
        check_frame(n, wheel, coats, rule)
    except Refused:
        return False
    return True


def _is_handed_length(length, wheel):
    """Return whether a thread that is handed in may have this length."""
    if wheel == 0:
        return abs(length) < LENGTH_BOUND
    return 0 <= length < wheel


def is_bundle(thing, n, wheel, coats):
    """Return whether thing is a bundle that can be handed in, its count looked at alone."""
    if not are_numbers(thing, 5):
        return False
    u, v, length, coat, count = thing
    return (
        0 <= u < v < n
        and _is_handed_length(length, wheel)
        and 0 <= coat < coats
        and 1 <= count <= MOST_THREADS
    )


def bundled(counts):
    """Return the bundles of a web from a dict of counts by thread."""
    return tuple([(*thread, counts[thread]) for thread in sorted(counts)])


def counted(bundles):
    """Return a dict of counts by thread from bundles of which no two have the same thread."""
    return {bundle[:4]: bundle[4] for bundle in bundles}


def rebuilt(web, counts):
    """Return the web that differs from this one in its threads alone."""
    return Web(web.n, web.wheel, web.coats, web.rule, bundled(counts))


def too_much(counts):
    """Return whether there are more bundles or threads than can be handed in, from a dict of counts by thread."""
    return len(counts) > MOST_BUNDLES or sum(counts.values()) > MOST_THREADS


def made_web(n, wheel, coats, rule, bundles):
    """Return the web that has these bundles, which may stand in any order and repeat threads."""
    check_frame(n, wheel, coats, rule)
    if len(bundles) > MOST_BUNDLES:
        raise TooMany(len(bundles))
    counts = {}
    total = 0
    for index, bundle in enumerate(bundles):
        if not is_bundle(bundle, n, wheel, coats):
            raise BadBundle(index)
        thread, count = bundle[:4], bundle[4]
        total += count
        if total > MOST_THREADS:
            raise BadBundle(index)
        counts[thread] = counts.get(thread, 0) + count
    return Web(n, wheel, coats, rule, bundled(counts))


def handy(web):
    """Return whether the web keeps the bounds of what can be handed in."""
    if len(web.bundles) > MOST_BUNDLES:
        return False
    if sum([bundle[4] for bundle in web.bundles]) > MOST_THREADS:
        return False
    return all([_is_handed_length(bundle[2], web.wheel) for bundle in web.bundles])


def check_coat(web, coat):
    """Raise BadCoats(coat) unless the web has this coat."""
    if not 0 <= coat < web.coats:
        raise BadCoats(coat)


def many(web, coat):
    """Return how many threads of a coat there are."""
    check_coat(web, coat)
    return sum([bundle[4] for bundle in web.bundles if bundle[3] == coat])


def _check_renaming(n, places):
    """Raise BadPlace unless places has each of the n places once."""
    if len(places) != n:
        raise BadPlace(len(places))
    for index, place in enumerate(places):
        if not 0 <= place < n or place in places[:index]:
            raise BadPlace(index)


def renamed(web, places):
    """Return the web in which places[p] stands where p stood."""
    _check_renaming(web.n, places)
    counts = {}
    for u, v, length, coat, count in web.bundles:
        counts[laid(places[u], places[v], length, coat, web.wheel)] = count
    return rebuilt(web, counts)
