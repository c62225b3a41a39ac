"""Arrows that are led home and from home, and arrows that are exchanged."""

from carriedends.arrowdeeds import carry_all
from carriedends.arrowlots import arrows_in, free_lots, outs_of, owners_of
from carriedends.arrowmoves import home_deeds, led, swap_deeds
from carriedends.arrows import counted_arrows
from carriedends.errors import BadPlace


def homes(s, owners, counts):
    """Change counts, which has the arrows of a free lot alone, until the lot is gathered; return the deeds."""
    deeds = []
    for owner in owners:
        if owner != s and (owner, s) not in counts:
            carry_all(counts, deeds, home_deeds(s, owner, counts))
    return deeds


def homes_run(arrows, lot):
    """Return a run that leads to a bag in which a free lot is gathered."""
    if lot not in free_lots(arrows):
        raise BadPlace(0)
    owners = owners_of(lot, outs_of(lot, arrows.bundles))
    counts = counted_arrows(arrows_in(lot, arrows.bundles))
    return tuple(homes(owners[0], owners, counts))


def _gathered_lot(arrows, owner):
    """Return a free and gathered lot of which a place is an owner, with its owners and the counts of its arrows."""
    for lot in free_lots(arrows):
        owners = owners_of(lot, outs_of(lot, arrows.bundles))
        if owner in owners:
            counts = counted_arrows(arrows_in(lot, arrows.bundles))
            if all([(other, owners[0]) in counts for other in owners[1:]]):
                return (lot, owners, counts)
    raise BadPlace(0)


def _can_leave(s, owners, u, v, counts):
    """Return whether there is an arrow from u to v that may be led elsewhere."""
    if (u, v) not in counts or v == s:
        return False
    others = sum([counts[arrow] for arrow in counts if arrow[1] == v]) - 1
    return v in owners or others > 0


def spare_run(arrows, u, v, w):
    """Return a run after which one arrow from u to v leads to w, and all else is as it was."""
    lot, owners, counts = _gathered_lot(arrows, u)
    s = owners[0]
    if not _can_leave(s, owners, u, v, counts):
        raise BadPlace(1)
    if w not in lot or w in (u, v) or (u != s and w != s):
        raise BadPlace(2)
    return led(s, u, v, w, 1, counts)


def swap_run(arrows, a, y, b, z):
    """Return a run after which one arrow from a to y leads to z, and one from b to z leads to y."""
    _, owners, counts = _gathered_lot(arrows, a)
    if y in owners or (a, y) not in counts:
        raise BadPlace(1)
    if b not in owners or b == a:
        raise BadPlace(2)
    if z in owners or z == y or (b, z) not in counts:
        raise BadPlace(3)
    return swap_deeds(owners[0], a, y, b, z)
