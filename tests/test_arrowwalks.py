"""Point [27]: arrows led home, led elsewhere, exchanged."""

import itertools
import random
import unittest

from carriedends.arrowdeeds import arrow_run_right, arrow_walked
from carriedends.arrowlots import arrow_ledger
from carriedends.arrows import Arrows, made_arrows
from carriedends.arrowwalks import homes_run, spare_run, swap_run
from carriedends.errors import BadPlace
from tests.helping import assert_refused, is_plain
from tests.plainarrows import all_arrow_bags, arrow_bagged, random_arrows, single_arrows

STRANGE = (None, 0, "", "free", (), (0,), (0, 1), (None,), ((0, 1, 2),), ("0", "1", "2"), (((((0,),),),),))


def free_rows(bag):
    return [row for row in arrow_ledger(bag) if row[0] == "free"]


def owners_of(row):
    return [place for place, out in zip(row[1], row[2]) if out]


def is_gathered(bag, row):
    """Whether each owner but the least one has an arrow to it."""
    s, *others = owners_of(row)
    return all((other, s) in single_arrows(bag) for other in others)


def plain_spare_fault(bag, u, v, w):
    """The index of the first argument of spare_run that does not fit, None if all do."""
    arrows = single_arrows(bag)
    fitting = [row for row in free_rows(bag) if u in owners_of(row) and is_gathered(bag, row)]
    if not fitting:
        return 0
    s, places = owners_of(fitting[0])[0], fitting[0][1]
    if arrows.count((u, v)) == 0 or u != s and v == s:
        return 1
    is_sink = not any(tail == v for tail, _ in arrows)
    if is_sink and sum(head == v for _, head in arrows) < 2:
        return 1
    if w not in places or w in (u, v) or u != s and w != s:
        return 2
    return None


def plain_swap_fault(bag, a, y, b, z):
    """The index of the first argument of swap_run that does not fit, None if all do."""
    arrows = single_arrows(bag)
    fitting = [row for row in free_rows(bag) if a in owners_of(row) and is_gathered(bag, row)]
    if not fitting:
        return 0
    owners = owners_of(fitting[0])
    sinks = [place for place in fitting[0][1] if place not in owners]
    if y not in sinks or (a, y) not in arrows:
        return 1
    if b not in owners or b == a:
        return 2
    if z not in sinks or z == y or (b, z) not in arrows:
        return 3
    return None


def exchanged(bag, gone, come):
    """The bag that has other single arrows in the place of some."""
    arrows = list(single_arrows(bag))
    for arrow in gone:
        arrows.remove(arrow)
    return arrow_bagged(bag.n, tuple(sorted(arrows + list(come))))


class WalksTest(unittest.TestCase):
    def assert_run(self, bag, run, goal, *, most=40):
        self.assertIs(type(run), tuple)
        self.assertTrue(is_plain(run, False))
        self.assertLessEqual(len(run), most)
        self.assertIs(arrow_run_right(bag, run, goal), True, (bag.bundles, run))

    def assert_homes(self, bag, row):
        run = homes_run(bag, row[1])
        self.assertTrue(is_plain(run, False))
        self.assertLessEqual(len(run), 1000)
        after = arrow_walked(bag, run)
        self.assertEqual(arrow_ledger(after), arrow_ledger(bag))
        self.assertTrue(is_gathered(after, row))
        for u, v, w, _ in run:
            self.assertLessEqual({u, v, w}, set(row[1]))
        return after

    def assert_spare(self, bag, u, v, w):
        fault = plain_spare_fault(bag, u, v, w)
        if fault is None:
            self.assert_run(bag, spare_run(bag, u, v, w), exchanged(bag, [(u, v)], [(u, w)]))
        else:
            assert_refused(self, BadPlace, fault, spare_run, bag, u, v, w)

    def assert_swap(self, bag, a, y, b, z):
        fault = plain_swap_fault(bag, a, y, b, z)
        if fault is None:
            goal = exchanged(bag, [(a, y), (b, z)], [(a, z), (b, y)])
            self.assert_run(bag, swap_run(bag, a, y, b, z), goal)
        else:
            assert_refused(self, BadPlace, fault, swap_run, bag, a, y, b, z)


class HomesTest(WalksTest):
    def test_all_small_bags(self):
        for n, most in ((3, 4), (4, 4)):
            for count in range(most + 1):
                for arrows in all_arrow_bags(n, count):
                    bag = arrow_bagged(n, arrows)
                    for row in free_rows(bag):
                        self.assert_homes(bag, row)

    def test_random_bags(self):
        rng = random.Random(27)
        for _ in range(300):
            n = rng.randint(3, 10)
            owners = rng.sample(range(n), rng.randint(1, n))
            bag = random_arrows(rng, n=n, bundles=rng.randint(2, 14), counts=(1, 1, 2, 3), owners=owners)
            for row in free_rows(bag):
                self.assert_homes(bag, row)

    def test_long_ways(self):
        # A chain of owners, in both directions, and one that ends at the least owner.
        for chain in ([0, 1, 2, 3, 4, 5, 6, 7, 8, 9], [9, 8, 7, 6, 5, 4, 3, 2, 1, 0], [3, 7, 1, 9, 5, 0, 2, 8, 6, 4]):
            for turn in (False, True):
                ties = [(v, u) if turn else (u, v) for u, v in zip(chain, chain[1:])]
                bag = arrow_bagged(10, tuple(sorted(ties)))
                self.assert_homes(bag, free_rows(bag)[0])

    def test_only_through_the_owner_itself(self):
        # All heads of 2 lie beyond it, and 0 leads to it.
        bag = made_arrows(4, ((0, 2, 1), (2, 1, 1), (2, 3, 1)))
        after = self.assert_homes(bag, free_rows(bag)[0])
        self.assertIn((2, 0, 1), after.bundles)

    def test_gathered_already(self):
        bag = made_arrows(4, ((1, 2, 1), (2, 1, 1), (3, 1, 1)))
        self.assertEqual(homes_run(bag, (1, 2, 3)), ())
        self.assertEqual(homes_run(lot=(1, 2, 3), arrows=bag), ())

    def test_bags_that_are_not_handy(self):
        bag = Arrows(10, tuple((u, v, 10 ** 9) for u in range(1, 10) for v in range(10) if u != v and v not in (1, u - 1)))
        row = free_rows(bag)[0]
        after = arrow_walked(bag, homes_run(bag, row[1]))
        bundles = {bundle[:2] for bundle in after.bundles}
        self.assertLessEqual({(owner, 1) for owner in range(2, 10)}, bundles)

    def test_other_lots(self):
        bag = made_arrows(9, ((0, 1, 1), (1, 2, 1), (3, 4, 1), (4, 3, 1), (5, 6, 1), (5, 7, 1)))
        self.assert_homes(bag, free_rows(bag)[0])
        for lot in (*STRANGE, (3, 4), (5, 6, 7), (8,), (0, 2), (0, 2, 1), (0, 1, 2, 3), (0, 1, 3)):
            assert_refused(self, BadPlace, 0, homes_run, bag, lot)


class SpareTest(WalksTest):
    def test_example(self):
        bag = made_arrows(3, ((0, 2, 1), (1, 0, 1), (1, 2, 1)))
        self.assert_run(bag, spare_run(bag, 1, 2, 0), made_arrows(3, ((0, 2, 1), (1, 0, 2))))
        self.assert_run(bag, spare_run(w=0, v=2, u=1, arrows=bag), made_arrows(3, ((0, 2, 1), (1, 0, 2))))

    def test_all_small_bags(self):
        for n, most in ((3, 5), (4, 4)):
            for count in range(2, most + 1):
                for arrows in all_arrow_bags(n, count):
                    bag = arrow_bagged(n, arrows)
                    if all(is_gathered(bag, row) for row in free_rows(bag)) and free_rows(bag):
                        for places in itertools.product(range(n), repeat=3):
                            self.assert_spare(bag, *places)

    def test_only_the_owner_leads_there(self):
        # The arrow of 0 leads to the owner itself, to another owner, to another sink.
        for u, v, bundles in (
            (1, 2, ((0, 1, 1), (1, 0, 1), (1, 2, 2))), (2, 3, ((0, 1, 1), (1, 0, 1), (2, 0, 1), (2, 3, 2))),
            (1, 2, ((0, 3, 1), (1, 0, 1), (1, 2, 2))), (1, 2, ((0, 3, 5), (1, 0, 1), (1, 2, 9), (1, 3, 2))),
        ):
            bag = made_arrows(4, bundles)
            self.assertIsNone(plain_spare_fault(bag, u, v, 0))
            self.assert_spare(bag, u, v, 0)

    def test_random_bags(self):
        rng = random.Random(272)
        for _ in range(400):
            n = rng.randint(3, 10)
            owners = rng.sample(range(n), rng.randint(2, min(n, 5)))
            bag = random_arrows(rng, n=n, bundles=rng.randint(2, 12), counts=(1, 1, 2, 3), owners=owners)
            for row in free_rows(bag):
                bag = arrow_walked(bag, homes_run(bag, row[1]))
            for u, v in sorted(set(single_arrows(bag))):
                for w in range(n):
                    self.assert_spare(bag, u, v, w)

    def test_bags_that_are_not_handy(self):
        bag = Arrows(10, tuple((u, v, 10 ** 9) for u in range(10) for v in range(10) if u != v and u < 9))
        for u, v, w in ((0, 9, 1), (0, 1, 9), (3, 9, 0), (5, 3, 0)):
            counts = {bundle[:2]: bundle[2] for bundle in bag.bundles}
            counts[u, v] -= 1
            counts[u, w] += 1
            goal = Arrows(10, tuple((*arrow, counts[arrow]) for arrow in sorted(counts)))
            self.assert_run(bag, spare_run(bag, u, v, w), goal)

    def test_numbers_of_any_size(self):
        bag = made_arrows(3, ((0, 2, 1), (1, 0, 1), (1, 2, 1)))
        for far in (-1, 3, 10 ** 40, -10 ** 40):
            assert_refused(self, BadPlace, 0, spare_run, bag, far, far, far)
            assert_refused(self, BadPlace, 1, spare_run, bag, 1, far, far)
            assert_refused(self, BadPlace, 2, spare_run, bag, 1, 2, far)

    def test_each_argument(self):
        bag = made_arrows(8, ((0, 2, 1), (0, 3, 1), (1, 0, 1), (1, 2, 1), (4, 5, 1), (5, 6, 1)))
        for u, v, w, index in (
            (2, 0, 1, 0), (7, 0, 1, 0), (4, 5, 6, 0), (5, 6, 4, 0),  # a sink, a place alone, a lot that is not gathered
            (0, 1, 2, 1), (0, 0, 2, 1), (1, 0, 2, 1), (1, 3, 0, 1), (0, 3, 1, 1),
            (0, 2, 4, 2), (0, 2, 0, 2), (0, 2, 2, 2), (1, 2, 3, 2), (1, 2, 1, 2), (1, 2, 2, 2),
        ):
            self.assertEqual(plain_spare_fault(bag, u, v, w), index)
            self.assert_spare(bag, u, v, w)
        self.assert_spare(bag, 0, 2, 1)
        self.assert_spare(bag, 0, 2, 3)


class SwapTest(WalksTest):
    def test_example(self):
        bag = made_arrows(4, ((0, 2, 1), (1, 0, 1), (1, 3, 1)))
        goal = made_arrows(4, ((0, 3, 1), (1, 0, 1), (1, 2, 1)))
        self.assert_run(bag, swap_run(bag, 0, 2, 1, 3), goal)
        self.assert_run(bag, swap_run(z=3, b=1, y=2, a=0, arrows=bag), goal)
        self.assert_run(bag, ((1, 0, 2, 1), (0, 2, 1, 1), (0, 1, 3, 1), (1, 3, 0, 1)), goal)

    def test_all_small_bags(self):
        for n, counts in ((4, (3, 4)), (3, (3, 4))):
            for count in counts:
                for arrows in all_arrow_bags(n, count):
                    bag = arrow_bagged(n, arrows)
                    if all(is_gathered(bag, row) for row in free_rows(bag)) and free_rows(bag):
                        for places in itertools.product(range(n), repeat=4):
                            self.assert_swap(bag, *places)

    def test_random_bags(self):
        rng = random.Random(273)
        swapped = 0
        for _ in range(300):
            n = rng.randint(4, 10)
            owners = rng.sample(range(n), rng.randint(2, min(n - 2, 5)))
            bag = random_arrows(rng, n=n, bundles=rng.randint(3, 14), counts=(1, 1, 2, 3), owners=owners)
            for row in free_rows(bag):
                bag = arrow_walked(bag, homes_run(bag, row[1]))
            ties = sorted(set(single_arrows(bag)))
            for (a, y), (b, z) in itertools.product(ties, repeat=2):
                swapped += plain_swap_fault(bag, a, y, b, z) is None
                self.assert_swap(bag, a, y, b, z)
        self.assertGreater(swapped, 300)

    def test_each_argument(self):
        bag = made_arrows(10, ((0, 3, 1), (1, 0, 1), (1, 4, 1), (2, 0, 1), (2, 3, 1), (5, 6, 1), (6, 7, 1), (8, 9, 1)))
        for a, y, b, z, index in (
            (3, 3, 1, 4, 0), (5, 6, 6, 7, 0), (8, 9, 8, 9, 0), (-1, 3, 1, 4, 0),
            (0, 4, 9, 9, 1), (1, 0, 9, 9, 1), (0, 9, 9, 9, 1), (0, 10 ** 40, 1, 4, 1),
            (0, 3, 0, 4, 2), (0, 3, 3, 9, 2), (0, 3, 5, 9, 2), (0, 3, -10 ** 40, 4, 2),
            (0, 3, 1, 3, 3), (0, 3, 1, 0, 3), (0, 3, 2, 3, 3), (0, 3, 2, 4, 3), (0, 3, 1, -1, 3),
        ):
            self.assertEqual(plain_swap_fault(bag, a, y, b, z), index)
            self.assert_swap(bag, a, y, b, z)
        self.assert_swap(bag, 0, 3, 1, 4)
        self.assert_swap(bag, 1, 4, 0, 3)
        self.assert_swap(bag, 1, 4, 2, 3)


if __name__ == "__main__":
    unittest.main()
