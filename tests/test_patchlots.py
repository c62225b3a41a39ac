"""Point [21]: lots and ledgers of bags of patches."""

import random
import unittest

from carriedends.errors import Unlike
from carriedends.patches import Patches, made_patches
from carriedends.patchlots import patch_joined, patch_ledger, patch_lots
from tests.helping import assert_refused, assert_same
from tests.plainpatches import bagged, classes_of_patches


class LotsTest(unittest.TestCase):
    def test_lots(self):
        patches = made_patches(9, 3, (((1, 4, 6), 2), ((2, 5, 8), 1), ((0, 4, 7), 10 ** 8)))
        assert_same(self, patch_lots(patches), ((0, 1, 4, 6, 7), (2, 5, 8), (3,)))
        assert_same(self, patch_ledger(patches), (((0, 1, 4, 6, 7), 10 ** 8 + 2), ((2, 5, 8), 1), ("one", 3)))
        assert_same(self, patch_lots(patches=made_patches(1, 4, ())), ((0,),))
        assert_same(self, patch_ledger(patches=made_patches(1, 4, ())), (("one", 0),))
        assert_same(self, patch_lots(made_patches(3, 4, ())), ((0,), (1,), (2,)))
        assert_same(self, patch_ledger(made_patches(2, 2, (((0, 1), 5),))), (((0, 1), 5),))

    def test_last_corners_hang_together(self):
        patches = made_patches(11, 4, (((0, 1, 2, 10), 1), ((3, 4, 5, 10), 1), ((6, 7, 8, 9), 3)))
        assert_same(self, patch_ledger(patches), (((0, 1, 2, 3, 4, 5, 10), 2), ((6, 7, 8, 9), 3)))


class JoinedTest(unittest.TestCase):
    def test_joined(self):
        one = made_patches(5, 3, (((0, 1, 2), 1), ((2, 3, 4), 1)))
        for bundles, due in (
            ((((0, 1, 2), 1), ((0, 3, 4), 1)), True), ((((0, 1, 2), 2), ((2, 3, 4), 1)), False),
            ((((0, 1, 2), 1), ((0, 1, 3), 1)), False), ((), False),
        ):
            self.assertIs(patch_joined(one, made_patches(5, 3, bundles)), due)
        self.assertIs(patch_joined(other=one, one=one), True)

    def test_joined_exactly_if_led_to(self):
        rng = random.Random(21)
        for n, k, count in ((4, 2, 3), (3, 2, 4), (4, 3, 3), (5, 3, 2), (5, 4, 3), (4, 4, 2)):
            webs = [
                (bagged(n, k, patches), index)
                for index, together in enumerate(classes_of_patches(n, k, count)) for patches in together
            ]
            for one, at in rng.sample(webs, min(40, len(webs))):
                for other, there in webs:
                    self.assertIs(patch_joined(one, other), at == there)

    def test_unlike(self):
        one = Patches(5, 3, ())
        assert_refused(self, Unlike, "n", patch_joined, one, Patches(4, 2, ()))
        assert_refused(self, Unlike, "n", patch_joined, Patches(4, 3, ()), one)
        assert_refused(self, Unlike, "k", patch_joined, one, Patches(5, 2, ()))
        assert_refused(self, Unlike, "k", patch_joined, Patches(5, 4, ()), one)


if __name__ == "__main__":
    unittest.main()
