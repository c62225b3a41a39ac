"""Point [22]: normal forms of bags of patches."""

import random
import unittest

from carriedends.patches import Patches, made_patches
from carriedends.patchform import patch_normal
from carriedends.patchlots import patch_joined, patch_ledger
from tests.helping import assert_same
from tests.plainpatches import bagged, classes_of_patches, single_patches


def plain_normal(bag):
    """The normal form of a bag of few patches, told patch by patch."""
    patches = []
    for row in patch_ledger(bag):
        if row[0] == "one":
            continue
        (s, *others), many = row
        waiting = list(others)
        for _ in range(many):
            corners = {s}
            while waiting and len(corners) < bag.k:
                corners.add(waiting.pop(0))
            for place in others:
                if len(corners) < bag.k:
                    corners.add(place)
            patches.append(tuple(sorted(corners)))
        assert not waiting
    return bagged(bag.n, bag.k, tuple(sorted(patches)))


class PatchNormalTest(unittest.TestCase):
    def assert_normal(self, bag, bundles):
        found = patch_normal(bag)
        self.assertIs(type(found), Patches)
        self.assertEqual((found.n, found.k), (bag.n, bag.k))
        assert_same(self, found.bundles, bundles)
        self.assertTrue(patch_joined(found, bag))
        self.assertEqual(patch_normal(found), found)

    def test_example(self):
        self.assert_normal(made_patches(4, 3, (((0, 1, 3), 2), ((1, 2, 3), 1))), (((0, 1, 2), 2), ((0, 1, 3), 1)))

    def test_nothing_to_write_anew(self):
        self.assert_normal(made_patches(1, 2, ()), ())
        self.assert_normal(made_patches(11, 4, ()), ())
        self.assert_normal(made_patches(7, 3, (((1, 2, 6), 10 ** 9),)), (((1, 2, 6), 10 ** 9),))

    def test_lots_beside_one_another(self):
        bag = made_patches(11, 3, (((0, 2, 4), 1), ((2, 4, 6), 5), ((1, 3, 5), 2), ((5, 7, 8), 1), ((3, 7, 10), 1)))
        self.assert_normal(bag, (
            ((0, 2, 4), 5), ((0, 2, 6), 1), ((1, 3, 5), 2), ((1, 3, 10), 1), ((1, 7, 8), 1),
        ))

    def test_many_patches(self):
        bag = made_patches(7, 4, (((0, 1, 2, 3), 10 ** 8), ((3, 4, 5, 6), 10 ** 8)))
        self.assert_normal(bag, (((0, 1, 2, 3), 2 * 10 ** 8 - 1), ((0, 4, 5, 6), 1)))
        # A patch that keeps one place alone gets the least others, and is like those that keep none.
        bag = made_patches(4, 3, (((0, 1, 2), 5), ((0, 2, 3), 1)))
        self.assert_normal(bag, (((0, 1, 2), 5), ((0, 1, 3), 1)))
        bag = made_patches(6, 4, (((0, 1, 2, 5), 3), ((0, 3, 4, 5), 4)))
        self.assert_normal(bag, (((0, 1, 2, 3), 6), ((0, 1, 4, 5), 1)))

    def test_threads(self):
        bag = made_patches(4, 2, (((0, 1), 1), ((1, 2), 1), ((2, 3), 4)))
        self.assert_normal(bag, (((0, 1), 4), ((0, 2), 1), ((0, 3), 1)))

    def test_bags_that_are_not_handy(self):
        pairs = tuple(((u, v), 10 ** 9) for u in range(11) for v in range(u + 1, 11))
        self.assert_normal(Patches(11, 2, pairs), (((0, 1), 55 * 10 ** 9 - 9),) + tuple(
            ((0, place), 1) for place in range(2, 11)
        ))

    def test_small_bags_have_one_normal_form_for_each_class(self):
        for n, k, count in ((4, 2, 3), (3, 2, 4), (4, 3, 3), (5, 3, 2), (5, 3, 3), (5, 4, 3), (6, 4, 2)):
            for together in classes_of_patches(n, k, count):
                forms = [patch_normal(bagged(n, k, patches)) for patches in together]
                self.assertIn(single_patches(forms[0]), together)
                self.assertEqual(forms[0], plain_normal(bagged(n, k, min(together))))
                for form in forms:
                    self.assertEqual(form, forms[0])

    def test_random_bags(self):
        rng = random.Random(22)
        for _ in range(200):
            n, k = rng.randint(4, 11), rng.randint(2, 4)
            bag = made_patches(n, k, tuple(
                (tuple(sorted(rng.sample(range(n), k))), rng.randint(1, 3)) for _ in range(rng.randint(0, 10))
            ))
            self.assert_normal(bag, plain_normal(bag).bundles)

    def test_by_name(self):
        bag = made_patches(4, 2, ())
        self.assertEqual(patch_normal(patches=bag), bag)


if __name__ == "__main__":
    unittest.main()
