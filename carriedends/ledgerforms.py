"""Ledgers by themselves: which things are ledgers, and the webs in normal form that are written of them."""

from carriedends.errors import BadLedger
from carriedends.forms import are_numbers, is_number
from carriedends.lots import hanging, is_free
from carriedends.normal import web_of_ledger
from carriedends.rests import lesser, measure, remainder
from carriedends.webs import Web, check_frame, is_frame


def _are_places(thing, n):
    """Return whether thing is a tuple of at least one of n places, strictly ascending."""
    if not isinstance(thing, tuple) or len(thing) == 0 or not are_numbers(thing, len(thing)):
        return False
    return thing[0] >= 0 and thing[-1] < n and all([low < high for low, high in zip(thing, thing[1:])])


def _is_thread_bundle(frame, coats, lot, thing):
    """Return whether thing is a bundle of any count between places of a lot, of one of the coats."""
    if not are_numbers(thing, 5):
        return False
    u, v, length, coat, count = thing
    return u < v and u in lot and v in lot and remainder(length, frame.wheel) == length and coat in coats and count >= 1


def _is_one(frame, row):
    """Return whether a row "one" is good."""
    return len(row) == 2 and is_number(row[1]) and 0 <= row[1] < frame.n


def _is_stuck(frame, coats, row):
    """Return whether a row "stuck" is good for a lot by threads of these coats."""
    if len(row) != 3 or not _are_places(row[1], frame.n) or not isinstance(row[2], tuple):
        return False
    _, lot, bundles = row
    if not all([_is_thread_bundle(frame, coats, lot, thing) for thing in bundles]):
        return False
    if not all([one[:4] < other[:4] for one, other in zip(bundles, bundles[1:])]):
        return False
    return len(lot) > 1 and lot in hanging(frame.n, bundles) and not is_free(frame.rule, lot, bundles)


def _are_counts(frame, coats, thing):
    """Return whether thing says how many threads of each coat a free lot by threads of these coats may have."""
    if not are_numbers(thing, frame.coats):
        return False
    there = [coat for coat, count in enumerate(thing) if count > 0]
    if min(thing) < 0 or not all([coat in coats for coat in there]):
        return False
    return frame.rule != "others" or len(there) > 1


def _is_measured(wheel, spares, common, ring):
    """Return whether a lot with so many spares may have this measure, a number, and this ring."""
    if spares == 1:
        return is_number(ring) and lesser(ring, wheel) == ring and common == measure(wheel, (ring,))
    if ring is not None:
        return False
    if spares == 0:
        return common == wheel
    if wheel == 0:
        return common >= 0
    return common >= 1 and remainder(wheel, common) == 0


def _is_free_row(frame, coats, row):
    """Return whether a row "free" is good for a lot by threads of these coats."""
    if len(row) != 7 or not _are_places(row[1], frame.n) or not _are_counts(frame, coats, row[2]):
        return False
    _, lot, counts, spares, common, ring, found = row
    if len(lot) < 3 or not are_numbers((spares, common), 2) or not are_numbers(found, len(lot)):
        return False
    if spares < 0 or spares != sum(counts) - len(lot) + 1 or not _is_measured(frame.wheel, spares, common, ring):
        return False
    return found[0] == 0 and all([remainder(height, common) == height for height in found])


def _is_row(frame, coats, row):
    """Return whether row, which may be any value, is a good row of a ledger by threads of these coats."""
    if not isinstance(row, tuple) or len(row) == 0:
        return False
    if row[0] == "one":
        return _is_one(frame, row)
    if row[0] == "stuck":
        return _is_stuck(frame, coats, row)
    return row[0] == "free" and _is_free_row(frame, coats, row)


def _is_table(frame, coats, thing):
    """Return whether thing, which may be any value, is a tuple of the rows of a ledger by threads of these coats."""
    if not isinstance(thing, tuple) or not all([_is_row(frame, coats, row) for row in thing]):
        return False
    known = [(row[1],) if row[0] == "one" else row[1] for row in thing]
    firsts = [lot[0] for lot in known]
    return sorted(firsts) == firsts and sorted([place for lot in known for place in lot]) == list(range(frame.n))


def is_ledger(n, wheel, coats, rule, thing):
    """Return whether thing, which may be any value, is the ledger of some web."""
    if not is_frame(n, wheel, coats, rule):
        return False
    frame = Web(n, wheel, coats, rule, ())
    if rule != "own":
        return _is_table(frame, list(range(coats)), thing)
    if not isinstance(thing, tuple) or len(thing) != coats:
        return False
    return all([_is_table(frame, [coat], part) for coat, part in enumerate(thing)])


def written(n, wheel, coats, rule, thing):
    """Return the web in normal form that has a ledger."""
    check_frame(n, wheel, coats, rule)
    if not is_ledger(n, wheel, coats, rule, thing):
        raise BadLedger(0)
    return web_of_ledger(n, wheel, coats, rule, thing)
