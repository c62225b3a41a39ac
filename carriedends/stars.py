"""Gathered lots as stars of threads, and what is done on them: exchanges, walks and rounds."""

from math import gcd

from carriedends.pairs import exchange_deeds
from carriedends.rests import remainder, scaled
from carriedends.rings import round_deed
from carriedends.spares import walk_deeds
from carriedends.webs import MOST_COATS


def rounds_for(wheel, excess, difference):
    """Return how many rounds about a spare thread of this excess make a length greater by the difference.

    There are such rounds if the greatest common divisor of wheel and excess divides the difference.
    """
    if wheel == 0:
        return difference // excess
    return remainder(scaled(excess, wheel) * (difference // gcd(wheel, excess)), wheel)


def _rarest(threads):
    """Return the coat that the fewest threads have."""
    totals = {}
    for thread in threads:
        totals[thread[2]] = totals.get(thread[2], 0) + threads[thread]
    return min([(totals[coat], coat) for coat in totals])[1]


class Star:
    """The threads of a gathered lot, and the deeds that were done on them.

    A thread is told as (place, length from the least place, coat), its position is (place, length). One thread to
    each place but the least one is its keeper: `keepers` has its length. All others are spare threads.
    """

    def __init__(self, wheel, rule, lot, counts):
        self.wheel = wheel
        self.rule = rule
        self.lot = lot
        self.threads = {thread[1:]: counts[thread] for thread in sorted(counts)}
        self.rare = _rarest(self.threads)
        self.deeds = []
        self.keepers = {}
        for place, length, _ in self.threads:
            self.keepers.setdefault(place, length)

    def keeper_at(self, place):
        """Return the position of the keeper of a place."""
        return (place, self.keepers[place])

    def excess_of(self, position):
        """Return by how much threads at a position are longer than the keeper of their place."""
        return remainder(position[1] - self.keepers[position[0]], self.wheel)

    def lying_at(self, position):
        """Return the threads at a position, ascending, each coat once."""
        return [thread for thread in sorted(self.threads) if thread[:2] == position]

    def unlike_coats(self, coat):
        """Return the coats of the threads along which a thread of this coat may be carried."""
        return [other for other in range(MOST_COATS) if self.rule != "others" or other != coat]

    def _shift(self, before, after, j):
        """Put j threads in the place of j others."""
        if self.threads[before] == j:
            del self.threads[before]
        else:
            self.threads[before] -= j
        self.threads[after] = self.threads.get(after, 0) + j

    def exchange(self, one, other, j):
        """Exchange j threads like one with a thread like other, which lies at another place and is unlike to them."""
        x, lx, a = one
        y, ly, b = other
        self.deeds.extend(exchange_deeds(self.wheel, self.lot[0], x, lx, a, y, ly, b, j=j))
        self._shift(one, (y, ly, a), j)
        self._shift(other, (x, lx, b), 1)

    def swap_coats(self, one, other):
        """Let a thread like one and a thread like other, of another position and coat, change their coats."""
        if one[0] != other[0]:
            self.exchange(one, other, 1)
            return
        # At the same place it is done by way of a thread at another place, which has its own coat again at the end.
        third = [thread for thread in sorted(self.threads) if thread[0] != one[0]][0]
        first, second = (other, one) if third[2] == one[2] else (one, other)
        a, b, c = first[2], second[2], third[2]
        self.exchange(first, third, 1)
        self.exchange(second, (*third[:2], a), 1)
        if b != c:
            self.exchange((*first[:2], c), (*third[:2], b), 1)

    def claim(self, position, welcome, taken):
        """Return a thread at a position whose coat is welcome, besides those that are taken.

        If there is none, a thread there gets such a coat from a thread elsewhere.
        """
        left = [thread for thread in sorted(self.threads) if self.threads[thread] > taken.count(thread)]
        here = [thread for thread in left if thread[:2] == position]
        fitting = [thread for thread in here if thread[2] in welcome]
        if fitting:
            return fitting[0]
        giver = [thread for thread in left if thread[2] in welcome][0]
        self.swap_coats(here[0], giver)
        return (*position, giver[2])

    def _led(self, position, rails):
        """Return threads at a position and at two rails' positions, of which the first may be led along the others."""
        # There are always two threads of other coats than the rarest one, so this choice never fails.
        welcome = [self.rare] if self.rule == "others" else self.unlike_coats(self.rare)
        taken = [self.claim(position, welcome, [])]
        for rail in rails:
            taken.append(self.claim(rail, self.unlike_coats(self.rare), taken))
        return taken

    def walk(self, position, place):
        """Lead a spare thread at a position to another place; return its position there."""
        x, length = position
        hx, hy = self.keepers[x], self.keepers[place]
        moved, rail, other = self._led(position, (self.keeper_at(x), self.keeper_at(place)))
        self.deeds.extend(
            walk_deeds(self.wheel, self.lot[0], x, hx, rail[2], place, hy, other[2], length, moved[2])
        )
        after = (place, remainder(hx + hy - length, self.wheel))
        self._shift(moved, (*after, moved[2]), 1)
        return after

    def lengthen(self, position, spare, difference):
        """Lead a thread round a spare thread at another place until it is longer by the difference.

        Return its position then. The spare thread has an excess that is not 0.
        """
        q = rounds_for(self.wheel, self.excess_of(spare), difference)
        if q == 0:
            return position
        x, length = spare
        moved, rail, other = self._led(position, (self.keeper_at(x), spare))
        z, l, c = moved
        self.deeds.append(
            round_deed(self.wheel, self.lot[0], z, l, c, x, self.keepers[x], rail[2], length, other[2], q=q)
        )
        after = (z, remainder(l + difference, self.wheel))
        self._shift(moved, (*after, c), 1)
        return after
