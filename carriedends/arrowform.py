"""Normal forms of bags of arrows, and runs to them and between joined bags."""

from carriedends.arrowdeeds import arrow_turned, carry_all
from carriedends.arrowlots import arrow_joined, arrow_lots, arrows_in, free_lots, is_free_lot, outs_of, owners_of
from carriedends.arrowmoves import led, swap_deeds
from carriedends.arrows import Arrows, arrow_bundles, arrow_handy, counted_arrows
from carriedends.arrowwalks import homes
from carriedends.errors import NotJoined, Wide


class Plan:
    """What the normal form of a free lot is made of.

    `s` is the least owner, `keepers` has for each sink, ascending, the owner that keeps it, `left` for each owner how
    many loose arrows it has, and `goals` where those lead.
    """

    def __init__(self, lot, outs):
        self.owners = owners_of(lot, outs)
        self.s = self.owners[0]
        self.left = {place: out - 1 for place, out in zip(lot, outs) if out > 0}
        self.left[self.s] += 1
        self.keepers = {}
        for sink in lot:
            if sink not in self.owners:
                keeper = [owner for owner in self.owners if self.left[owner] > 0][0]
                self.left[keeper] -= 1
                self.keepers[sink] = keeper
        self.goals = {owner: self.s for owner in self.owners}
        self.goals[self.s] = [place for place in lot if place != self.s][0]

    def wanted(self):
        """Return a dict of the counts of the arrows in normal form."""
        found = {(owner, self.s): 1 for owner in self.owners if owner != self.s}
        for sink, owner in self.keepers.items():
            found[owner, sink] = 1
        for owner in self.owners:
            if self.left[owner]:
                loose = (owner, self.goals[owner])
                found[loose] = found.get(loose, 0) + self.left[owner]
        return found


def arrow_normal(arrows):
    """Return the normal form of a bag of arrows."""
    counts = {}
    for lot in arrow_lots(arrows):
        outs = outs_of(lot, arrows.bundles)
        if is_free_lot(lot, outs):
            found = Plan(lot, outs).wanted()
        else:
            found = counted_arrows(arrows_in(lot, arrows.bundles))
        for arrow in found:
            counts[arrow] = found[arrow]
    return Arrows(arrows.n, arrow_bundles(counts))


def _loosen(plan, keepers, counts, deeds):
    """Lead all arrows but homes and keepers to where loose arrows lead in normal form."""
    for u, v in sorted(counts):
        j = counts[u, v] - (1 if keepers.get(v) == u else 0)
        goal = plan.goals[u]
        if j > 0 and v != goal:
            carry_all(counts, deeds, led(plan.s, u, v, goal, j, counts))


def _has_loose(plan, owner, keepers, counts):
    """Return whether an owner has an arrow that is neither its home arrow nor a keeper, when all are led there."""
    goal = plan.goals[owner]
    bound = 1 if goal == plan.s or keepers.get(goal) == owner else 0
    return counts.get((owner, goal), 0) > bound


def _change_keeper(plan, sink, keepers, counts, deeds):
    """Let a loose arrow of the owner that is due keep a sink, and lead the former keeper to the loose arrows."""
    due, former = plan.keepers[sink], keepers[sink]
    if plan.goals[due] != sink:
        carry_all(counts, deeds, led(plan.s, due, plan.goals[due], sink, 1, counts))
    carry_all(counts, deeds, led(plan.s, former, sink, plan.goals[former], 1, counts))
    keepers[sink] = due


def _swap_keepers(plan, sink, keepers, counts, deeds):
    """Let the owner that is due keep a sink in the place of another one that it is not to keep."""
    due, former = plan.keepers[sink], keepers[sink]
    other = [place for place in keepers if keepers[place] == due and plan.keepers[place] != due][0]
    carry_all(counts, deeds, swap_deeds(plan.s, due, other, former, sink))
    keepers[sink], keepers[other] = due, former


def _deal(plan, keepers, counts, deeds):
    """Let each sink be kept by the owner that is due."""
    for sink in plan.keepers:
        due = plan.keepers[sink]
        if keepers[sink] == due:
            continue
        if _has_loose(plan, due, keepers, counts):
            _change_keeper(plan, sink, keepers, counts, deeds)
        else:
            _swap_keepers(plan, sink, keepers, counts, deeds)


def _settled(lot, outs, counts):
    """Change counts, which has the arrows of a free lot alone, to those of the normal form; return the deeds."""
    plan = Plan(lot, outs)
    deeds = homes(plan.s, plan.owners, counts)
    keepers = {}
    for owner, head in sorted(counts):
        if head in plan.keepers:
            keepers.setdefault(head, owner)
    _loosen(plan, keepers, counts, deeds)
    _deal(plan, keepers, counts, deeds)
    return deeds


def _run_to_normal(arrows):
    """Return a run to the normal form, lot by lot."""
    deeds = []
    for lot in free_lots(arrows):
        counts = counted_arrows(arrows_in(lot, arrows.bundles))
        deeds.extend(_settled(lot, outs_of(lot, arrows.bundles), counts))
    return tuple(deeds)


def arrow_normal_run(arrows):
    """Return a run from a bag of arrows to its normal form."""
    if not arrow_handy(arrows):
        raise Wide(0)
    return _run_to_normal(arrows)


def arrow_run_between(one, other):
    """Return a run from one bag of arrows to another that is joined with it."""
    are_joined = arrow_joined(one, other)
    if not arrow_handy(one):
        raise Wide(0)
    if not arrow_handy(other):
        raise Wide(1)
    if not are_joined:
        raise NotJoined(0)
    if one == other:
        return ()
    return (*_run_to_normal(one), *arrow_turned(_run_to_normal(other)))
