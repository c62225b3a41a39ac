"""Point [22]: gathered patches, runs to normal forms and between joined bags."""

import itertools
import random
import unittest

from carriedends.errors import NotJoined, Unlike, Wide, BadPlace
from carriedends.patchdeeds import patch_offers, patch_run_right, patch_slides, patch_turned, patch_walked
from carriedends.patches import Patches, made_patches, patch_handy
from carriedends.patchform import patch_normal
from carriedends.patchlots import patch_ledger, patch_lots
from carriedends.patchrun import patch_gather_count, patch_gather_run, patch_normal_run, patch_run_between
from tests.helping import assert_refused, assert_same, is_plain
from tests.plainpatches import all_patch_bags, bagged, classes_of_patches, patch_slid

STRANGE = (None, 0, "", "one", (), (None,), ((0, 1, 2),), ("0", "1"), (((((0,),),),),), (0, 1, 1), (1, 0), (-1,), (99,))


def random_patches(rng, *, n, k, bundles, counts=(1, 1, 1, 2, 3, 10 ** 7)):
    """Some bag of patches."""
    return made_patches(n, k, tuple(
        (tuple(sorted(rng.sample(range(n), k))), rng.choice(counts)) for _ in range(bundles if k <= n else 0)
    ))


def outside(bag, lot):
    """The patches of a lot that do not have its least place."""
    return sum(count for corners, count in bag.bundles if set(corners) <= set(lot) and lot[0] not in corners)


class GatherTest(unittest.TestCase):
    def assert_gathered(self, bag):
        for lot in patch_lots(bag):
            due = outside(bag, lot)
            assert_same(self, patch_gather_count(bag, lot), due)
            run = patch_gather_run(bag, lot)
            self.assertIs(type(run), tuple)
            self.assertTrue(is_plain(run, False))
            self.assertEqual(patch_slides(run), due)
            after = patch_walked(bag, run)
            self.assertEqual(outside(after, lot), 0)
            self.assertEqual(patch_ledger(after), patch_ledger(bag))
            for corners, _, _, rail, _ in run:
                self.assertLessEqual(set(corners) | set(rail), set(lot))
            if patch_handy(bag):
                self.assertLessEqual(len(run), 1000)

    def test_all_small_bags(self):
        for n, k, count in ((4, 2, 3), (3, 2, 4), (4, 3, 3), (5, 3, 2), (5, 3, 3), (5, 4, 3)):
            for patches in all_patch_bags(n, k, count):
                self.assert_gathered(bagged(n, k, patches))

    def test_it_is_the_fewest(self):
        # A slide changes one patch, so no fewer slides than searching plainly finds.
        for n, k, patches in (
            (4, 2, ((1, 2), (1, 3), (0, 3))), (5, 2, ((0, 1), (1, 2), (2, 3), (3, 4))), (5, 3, ((0, 1, 2), (2, 3, 4), (1, 3, 4))),
        ):
            found, distance = {patches}, 0
            while not any(all(0 in corners for corners in some) for some in found):
                found |= {after for some in found for after, _ in patch_slid(some)}
                distance += 1
            self.assertEqual(patch_gather_count(bagged(n, k, patches), tuple(range(n))), distance)

    def test_random_bags(self):
        rng = random.Random(221)
        for _ in range(300):
            self.assert_gathered(random_patches(rng, n=rng.randint(2, 11), k=rng.randint(2, 4), bundles=rng.randint(0, 20)))

    def test_long_chain(self):
        self.assert_gathered(made_patches(11, 2, tuple(((place, place + 1), 10 ** 8) for place in range(10))))
        self.assert_gathered(made_patches(11, 3, tuple(((place, place + 1, place + 2), 5) for place in range(0, 9, 2))))

    def test_bags_that_are_not_handy(self):
        bag = Patches(11, 4, tuple((corners, 10 ** 9) for corners in itertools.combinations(range(11), 4)))
        self.assertFalse(patch_handy(bag))
        self.assert_gathered(bag)
        self.assertEqual(patch_gather_count(bag, tuple(range(11))), 210 * 10 ** 9)

    def test_places_alone_and_gathered_lots(self):
        bag = made_patches(5, 3, (((0, 1, 2), 4),))
        for lot in ((0, 1, 2), (3,), (4,)):
            self.assertEqual(patch_gather_count(bag, lot), 0)
            self.assertEqual(patch_gather_run(bag, lot), ())
        bag = made_patches(4, 2, (((1, 3), 2), ((2, 3), 7)))
        self.assertEqual(patch_gather_count(lot=(1, 2, 3), patches=bag), 7)
        self.assertEqual(patch_gather_run(lot=(1, 2, 3), patches=bag), (((2, 3), 3, 1, (1, 3), 7),))

    def test_other_lots(self):
        bag = made_patches(5, 3, (((0, 1, 2), 4),))
        for lot in (*STRANGE, (0, 1), (0, 1, 3), (3, 4), (0,), (0, 1, 2, 3), (2, 1, 0)):
            assert_refused(self, BadPlace, 0, patch_gather_count, bag, lot)
            assert_refused(self, BadPlace, 0, patch_gather_run, bag, lot)


class NormalRunTest(unittest.TestCase):
    def assert_run(self, bag):
        run = patch_normal_run(bag)
        self.assertIs(type(run), tuple)
        self.assertTrue(is_plain(run, False))
        self.assertLessEqual(len(run), 3000)
        self.assertIs(patch_run_right(bag, run, patch_normal(bag)), True, bag.bundles)

    def assert_between(self, one, other):
        run = patch_run_between(one, other)
        self.assertTrue(is_plain(run, False))
        self.assertLessEqual(len(run), 6000)
        self.assertIs(patch_run_right(one, run, other), True, (one.bundles, other.bundles))

    def test_all_small_bags(self):
        rng = random.Random(222)
        for n, k, count in ((4, 2, 3), (3, 2, 4), (4, 3, 3), (5, 3, 2), (5, 3, 3), (5, 4, 3), (6, 4, 2), (6, 3, 2)):
            for together in classes_of_patches(n, k, count):
                for patches in together:
                    self.assert_run(bagged(n, k, patches))
                one, other = (bagged(n, k, rng.choice(sorted(together))) for _ in range(2))
                self.assert_between(one, other)

    def test_no_corner_to_spare(self):
        # Each place but the least one is kept by one patch alone, so corners can only be exchanged.
        for kept in ((1, 3), (2, 4)), ((1, 4), (2, 3)), ((1, 2), (3, 4)):
            self.assert_run(made_patches(5, 3, tuple(((0, *places), 1) for places in kept)))
        rng = random.Random(223)
        for k, n in ((3, 11), (4, 10), (2, 11), (4, 7)):
            for _ in range(30):
                places = rng.sample(range(1, n), n - 1)
                patches = [tuple(sorted((0, *places[at:at + k - 1]))) for at in range(0, n - 1, k - 1)]
                self.assert_run(made_patches(n, k, tuple((corners, 1) for corners in patches)))

    def test_last_patch_that_keeps_places(self):
        # Just enough patches to keep all places, of which the last one has some places besides.
        rng = random.Random(226)
        for k, n in ((4, 5), (4, 8), (4, 11), (4, 6), (4, 9), (3, 4), (3, 6), (3, 10)):
            for _ in range(40):
                places = rng.sample(range(1, n), n - 1)
                patches = []
                for at in range(0, n - 1, k - 1):
                    kept = places[at:at + k - 1]
                    more = rng.sample([place for place in places if place not in kept], k - 1 - len(kept))
                    patches.append(tuple(sorted((0, *kept, *more))))
                self.assert_run(bagged(n, k, tuple(patches)))

    def test_random_bags(self):
        rng = random.Random(224)
        for _ in range(400):
            n, k = rng.randint(2, 11), rng.randint(2, 4)
            self.assert_run(random_patches(rng, n=n, k=k, bundles=rng.choice((1, 3, 5, 9, 20, 30))))

    def test_many_patches(self):
        for k in (2, 3, 4):
            corners = list(itertools.combinations(range(11), k))[-30:]
            self.assert_run(made_patches(11, k, tuple((some, 10 ** 9 // 30) for some in corners)))
            self.assert_run(made_patches(11, k, tuple((some, 1) for some in corners[:-1]) + ((corners[-1], 10 ** 9 - 29),)))

    def test_random_runs_between(self):
        rng = random.Random(225)
        for _ in range(150):
            n, k = rng.randint(3, 11), rng.randint(2, 4)
            one = other = random_patches(rng, n=n, k=k, bundles=rng.choice((2, 4, 8)), counts=(1, 2, 10 ** 7))
            for _ in range(30):
                there = patch_offers(other)
                if there:
                    corners, v, w, rail, _ = rng.choice(there)
                    j = rng.randint(1, dict(other.bundles)[corners])
                    other = patch_walked(other, ((corners, v, w, rail, j),))
            if patch_handy(other):
                self.assert_between(one, other)
                self.assert_between(other, one)

    def test_equal_bags(self):
        for bag in (made_patches(1, 2, ()), made_patches(5, 3, (((0, 1, 2), 1), ((2, 3, 4), 1)))):
            self.assertEqual(patch_run_between(bag, made_patches(bag.n, bag.k, bag.bundles)), ())

    def test_by_name(self):
        one = made_patches(5, 3, (((0, 1, 2), 1), ((2, 3, 4), 1)))
        run = patch_turned(patch_normal_run(patches=one))
        self.assertEqual(patch_walked(patch_normal(one), run), one)
        self.assertIs(patch_run_right(one, patch_run_between(other=patch_normal(one), one=one), patch_normal(one)), True)

    def test_wide(self):
        good, corners = made_patches(11, 2, ()), list(itertools.combinations(range(11), 2))
        self.assert_run(Patches(11, 2, tuple((some, 1) for some in corners[:30])))
        for bag in (
            Patches(11, 2, tuple((some, 1) for some in corners[:31])), Patches(11, 2, (((0, 1), 10 ** 9), ((0, 2), 1))),
        ):
            assert_refused(self, Wide, 0, patch_normal_run, bag)
            assert_refused(self, Wide, 0, patch_run_between, bag, bag)
            assert_refused(self, Wide, 0, patch_run_between, bag, good)
            assert_refused(self, Wide, 1, patch_run_between, good, bag)
            assert_refused(self, Unlike, "n", patch_run_between, bag, made_patches(10, 3, ()))
            assert_refused(self, Unlike, "k", patch_run_between, bag, made_patches(11, 3, ()))

    def test_not_joined(self):
        bag = made_patches(5, 3, (((0, 1, 2), 1), ((2, 3, 4), 1)))
        for other in (made_patches(5, 3, ()), made_patches(5, 3, (((0, 1, 2), 1), ((1, 2, 3), 1)))):
            assert_refused(self, NotJoined, 0, patch_run_between, bag, other)
            assert_refused(self, NotJoined, 0, patch_run_between, other, bag)
        assert_refused(self, Unlike, "n", patch_run_between, bag, made_patches(6, 4, ()))
        assert_refused(self, Unlike, "k", patch_run_between, bag, made_patches(5, 4, ()))


if __name__ == "__main__":
    unittest.main()
