"""Point [28]: normal forms of bags of arrows, and runs to them."""

import random
import unittest

from carriedends.arrowdeeds import arrow_run_right, arrow_turned, arrow_walked
from carriedends.arrowform import arrow_normal, arrow_normal_run, arrow_run_between
from carriedends.arrowlots import arrow_joined, arrow_ledger
from carriedends.arrows import Arrows, arrow_handy, made_arrows
from carriedends.errors import NotJoined, Unlike, Wide
from tests.helping import assert_refused, assert_same, is_plain
from tests.plainarrows import arrow_bagged, classes_of_arrows, random_arrows, single_arrows


def plain_normal(bag):
    """The normal form of a bag of few arrows, told arrow by arrow."""
    arrows = []
    for row in arrow_ledger(bag):
        if row[0] == "stuck":
            arrows += [(u, v) for u, v, count in row[2] for _ in range(count)]
        if row[0] != "free":
            continue
        # The arrows that are not yet led anywhere, by their owners.
        waiting = [place for place, out in zip(row[1], row[2]) for _ in range(out)]
        owners = sorted(set(waiting))
        s = owners[0]
        for owner in owners[1:]:
            waiting.remove(owner)
            arrows.append((owner, s))
        for sink in row[1]:
            if sink not in owners:
                arrows.append((waiting.pop(0), sink))
        least = min(set(row[1]) - {s})
        arrows += [(owner, least if owner == s else s) for owner in waiting]
    return arrow_bagged(bag.n, tuple(sorted(arrows)))


def wide():
    """A bag that is joined with itself alone in many ways, and is not handy by its bundles."""
    return Arrows(10, tuple((u, v, 1) for u in range(10) for v in range(10) if u != v)[:31])


class NormalTest(unittest.TestCase):
    def assert_normal(self, bag, bundles):
        found = arrow_normal(bag)
        self.assertIs(type(found), Arrows)
        self.assertEqual(found.n, bag.n)
        assert_same(self, found.bundles, bundles)
        self.assertTrue(arrow_joined(found, bag))
        self.assertEqual(arrow_normal(found), found)

    def test_example(self):
        self.assert_normal(made_arrows(3, ((0, 1, 1), (1, 2, 2))), ((0, 2, 1), (1, 0, 2)))

    def test_stuck_lots_stay(self):
        for n, bundles in (
            (1, ()), (10, ()), (2, ((0, 1, 3), (1, 0, 2))), (4, ((2, 0, 1), (2, 1, 5), (2, 3, 10 ** 8))),
            (5, ((0, 4, 1), (4, 0, 1), (3, 1, 7), (3, 2, 1))),
        ):
            self.assert_normal(made_arrows(n, bundles), tuple(sorted(bundles)))

    def test_where_loose_arrows_lead(self):
        # The least place is a sink: it is kept by the least owner, and the loose arrows of that owner lead to it.
        self.assert_normal(made_arrows(4, ((1, 2, 5), (2, 0, 1), (2, 3, 1))), ((1, 0, 4), (1, 3, 1), (2, 1, 2)))
        # The least place other than s is an owner.
        self.assert_normal(made_arrows(3, ((0, 2, 5), (1, 2, 3))), ((0, 1, 4), (0, 2, 1), (1, 0, 3)))
        # The least owner has no arrow left for the second sink; the next owner has one, the third one's is loose.
        self.assert_normal(
            made_arrows(5, ((0, 3, 1), (1, 3, 1), (1, 4, 1), (2, 3, 1), (2, 4, 1))),
            ((0, 3, 1), (1, 0, 1), (1, 4, 1), (2, 0, 2)),
        )

    def test_lots_beside_one_another(self):
        bag = made_arrows(10, ((9, 1, 1), (1, 5, 1), (8, 2, 2), (2, 3, 4), (6, 7, 3), (7, 6, 1), (0, 4, 1)))
        self.assert_normal(bag, (
            (0, 4, 1), (1, 5, 1), (2, 3, 4), (6, 7, 3), (7, 6, 1), (8, 2, 2), (9, 1, 1),
        ))

    def test_many_arrows(self):
        bag = made_arrows(5, ((3, 1, 10 ** 8), (3, 2, 10 ** 8), (4, 1, 10 ** 8), (4, 0, 1)))
        self.assert_normal(bag, ((3, 0, 2 * 10 ** 8 - 2), (3, 1, 1), (3, 2, 1), (4, 3, 10 ** 8 + 1)))
        bag = Arrows(10, tuple((u, v, 10 ** 9) for u in range(10) for v in range(10) if u != v))
        self.assert_normal(bag, ((0, 1, 9 * 10 ** 9),) + tuple((u, 0, 9 * 10 ** 9) for u in range(1, 10)))

    def test_small_bags_have_one_normal_form_for_each_class(self):
        for n, count in ((2, 3), (3, 2), (3, 3), (3, 4), (4, 3), (4, 4)):
            for together in classes_of_arrows(n, count):
                forms = [arrow_normal(arrow_bagged(n, arrows)) for arrows in together]
                self.assertIn(single_arrows(forms[0]), together)
                self.assertEqual(forms[0], plain_normal(arrow_bagged(n, min(together))))
                for form in forms:
                    self.assertEqual(form, forms[0])

    def test_random_bags(self):
        rng = random.Random(28)
        for _ in range(300):
            n = rng.randint(1, 10)
            owners = rng.sample(range(n), rng.randint(1, n))
            bag = random_arrows(rng, n=n, bundles=rng.randint(0, 14), counts=(1, 1, 2, 3), owners=owners)
            self.assert_normal(bag, plain_normal(bag).bundles)

    def test_by_name(self):
        self.assertEqual(arrow_normal(arrows=made_arrows(4, ())), made_arrows(4, ()))


class RunsTest(unittest.TestCase):
    def assert_runs(self, bag):
        run = arrow_normal_run(bag)
        self.assertIs(type(run), tuple)
        self.assertTrue(is_plain(run, False))
        self.assertLessEqual(len(run), 3000)
        self.assertIs(arrow_run_right(bag, run, arrow_normal(bag)), True, bag.bundles)

    def assert_between(self, one, other):
        run = arrow_run_between(one, other)
        self.assertTrue(is_plain(run, False))
        self.assertLessEqual(len(run), 6000)
        self.assertIs(arrow_run_right(one, run, other), True, (one.bundles, other.bundles))

    def test_example(self):
        bag = made_arrows(3, ((0, 1, 1), (1, 2, 2)))
        for run in (((0, 1, 2, 1), (1, 2, 0, 1), (1, 2, 0, 1)), ((0, 1, 2, 1), (1, 2, 0, 2))):
            self.assertEqual(arrow_walked(bag, run), arrow_normal(bag))
        self.assert_runs(bag)

    def test_all_small_bags(self):
        rng = random.Random(281)
        for n, count in ((2, 3), (3, 2), (3, 3), (3, 4), (3, 5), (4, 3), (4, 4)):
            for together in classes_of_arrows(n, count):
                for arrows in together:
                    self.assert_runs(arrow_bagged(n, arrows))
                one, other = (arrow_bagged(n, rng.choice(sorted(together))) for _ in range(2))
                self.assert_between(one, other)

    def test_random_bags(self):
        rng = random.Random(282)
        for _ in range(600):
            n = rng.randint(2, 10)
            owners = rng.sample(range(n), rng.randint(1, n))
            self.assert_runs(random_arrows(rng, n=n, bundles=rng.choice((2, 5, 9, 20, 30)), owners=owners))

    def test_random_runs_between(self):
        rng = random.Random(283)
        for _ in range(150):
            n = rng.randint(2, 10)
            one = random_arrows(rng, n=n, bundles=rng.choice((2, 5, 9, 15)), counts=(1, 2, 10 ** 7))
            # The outs of the lots, dealt anew.
            other = arrow_walked(one, arrow_normal_run(one))
            for _ in range(40):
                counts = {bundle[:2]: bundle[2] for bundle in other.bundles}
                u, v = rng.choice(sorted(counts))
                ways = [w for w in range(n) if w != u and ((v, w) in counts or (w, v) in counts)]
                if ways:
                    other = arrow_walked(other, ((u, v, rng.choice(ways), rng.randint(1, counts[u, v])),))
            if arrow_handy(other):
                self.assert_between(one, other)
                self.assert_between(other, one)

    def test_equal_bags(self):
        for bag in (made_arrows(3, ((0, 1, 1), (1, 2, 2))), made_arrows(1, ()), made_arrows(2, ((0, 1, 10 ** 9),))):
            self.assertEqual(arrow_run_between(bag, made_arrows(bag.n, bag.bundles)), ())

    def test_turned_run(self):
        one = made_arrows(4, ((0, 1, 10 ** 8), (1, 2, 2), (2, 3, 5)))
        run = arrow_turned(arrow_normal_run(arrows=one))
        self.assertEqual(arrow_walked(arrow_normal(one), run), one)
        self.assertIs(arrow_run_right(one, arrow_run_between(other=arrow_normal(one), one=one), arrow_normal(one)), True)

    def test_wide(self):
        good, most = made_arrows(10, ()), 10 ** 9
        # 30 bundles and a sum of 10 ** 9 are handy.
        pairs = [(u, v) for u in range(10) for v in range(10) if u != v]
        self.assert_runs(Arrows(10, tuple((*pair, 1) for pair in pairs[:29]) + ((*pairs[29], most - 29),)))
        for bag in (wide(), Arrows(10, tuple((*pair, 1) for pair in pairs[:29]) + ((*pairs[29], most - 28),))):
            self.assertFalse(arrow_handy(bag))
            assert_refused(self, Wide, 0, arrow_normal_run, bag)
            assert_refused(self, Wide, 0, arrow_run_between, bag, bag)
            assert_refused(self, Wide, 0, arrow_run_between, bag, good)
            assert_refused(self, Wide, 1, arrow_run_between, good, bag)
            assert_refused(self, Unlike, "n", arrow_run_between, bag, made_arrows(9, ()))

    def test_not_joined(self):
        bag = made_arrows(3, ((0, 1, 1), (1, 2, 2)))
        for other in (
            made_arrows(3, ()), made_arrows(3, ((0, 1, 2), (1, 2, 1))), made_arrows(3, ((0, 1, 1), (1, 0, 2))),
        ):
            assert_refused(self, NotJoined, 0, arrow_run_between, bag, other)
            assert_refused(self, NotJoined, 0, arrow_run_between, other, bag)
        # The last example of [28].
        assert_refused(
            self, NotJoined, 0, arrow_run_between, made_arrows(3, ((0, 1, 2), (0, 2, 1))),
            made_arrows(3, ((0, 1, 1), (0, 2, 2))),
        )
        assert_refused(self, Unlike, "n", arrow_run_between, bag, made_arrows(4, bag.bundles))


if __name__ == "__main__":
    unittest.main()
