"""Point [19]: bags of patches."""

import unittest

from carriedends.errors import BadBundle, BadCount, BadSize, TooMany
from carriedends.patches import Patches, made_patches, patch_handy
from carriedends.webs import made_web
from tests.helping import assert_refused, assert_same


class MadePatchesTest(unittest.TestCase):
    def test_bundles_are_added_and_ordered(self):
        found = made_patches(5, 3, (((1, 2, 4), 3), ((0, 1, 2), 1), ((1, 2, 4), 10 ** 9 - 6), ((0, 1, 4), 2)))
        self.assertIs(type(found), Patches)
        self.assertEqual((found.n, found.k), (5, 3))
        assert_same(self, found.bundles, (((0, 1, 2), 1), ((0, 1, 4), 2), ((1, 2, 4), 10 ** 9 - 3)))
        assert_same(self, made_patches(bundles=(((0, 1), 1),), k=2, n=2).bundles, (((0, 1), 1),))

    def test_sizes_and_corners(self):
        for n in (1, 2, 11):
            for k in (2, 3, 4):
                found = made_patches(n, k, ())
                self.assertEqual((found.n, found.k, found.bundles), (n, k, ()))
        for n in (0, -1, 12, 10 ** 20):
            assert_refused(self, BadSize, n, made_patches, n, 5, (None,) * 31)
        for k in (1, 0, -2, 5, 10 ** 20):
            assert_refused(self, BadCount, k, made_patches, 11, k, (None,) * 31)
        # There are no patches with more corners than places.
        assert_refused(self, BadBundle, 0, made_patches, 2, 3, (((0, 1, 2), 1),))
        self.assertEqual(made_patches(11, 4, (((7, 8, 9, 10), 1),)).bundles, (((7, 8, 9, 10), 1),))

    def test_how_many_bundles(self):
        for bundle in (((0, 1), 1), None):
            assert_refused(self, TooMany, 31, made_patches, 3, 2, (bundle,) * 31)
        self.assertEqual(made_patches(3, 2, (((0, 1), 1),) * 30).bundles, (((0, 1), 30),))

    def test_bad_bundles(self):
        good = ((0, 1, 2), 1)
        for bad in (
            None, 0, "", (), ((0, 1, 2),), ((0, 1, 2), 1, 1), ((0, 1), 1), ((0, 1, 2, 3), 1), ((0, 2, 1), 1),
            ((1, 0, 2), 1), ((0, 0, 1), 1), ((0, 1, 1), 1), ((-1, 0, 1), 1), ((2, 3, 4), 1), ((0, 1, "2"), 1),
            ((0, None, 2), 1), (None, 1), (0, 1), ("012", 1), ((0, 1, 2), 0), ((0, 1, 2), -1), ((0, 1, 2), None),
            ((0, 1, 2), "1"), ((0, 1, 2), (1,)), ((0, 1, 2), 10 ** 9 + 1), (1, (0, 1, 2)), (((0, 1, 2), 1),),
            ((0, 1, (2,)), 1),
        ):
            assert_refused(self, BadBundle, 0, made_patches, 4, 3, (bad,))
            assert_refused(self, BadBundle, 2, made_patches, 4, 3, (good, ((1, 2, 3), 1), bad, None))

    def test_sum_of_counts(self):
        most = 10 ** 9
        self.assertEqual(made_patches(3, 2, (((0, 1), most),)).bundles, (((0, 1), most),))
        self.assertEqual(made_patches(3, 2, (((0, 1), most - 1), ((0, 1), 1))).bundles, (((0, 1), most),))
        assert_refused(self, BadBundle, 1, made_patches, 3, 2, (((0, 1), most), ((1, 2), 1)))
        assert_refused(self, BadBundle, 2, made_patches, 3, 2, (((0, 1), 1), ((1, 2), most - 1), ((1, 2), 1), None))

    def test_nothing_is_changed(self):
        bundles = (((1, 2), 3), ((0, 1), 1))
        made_patches(3, 2, bundles)
        self.assertEqual(bundles, (((1, 2), 3), ((0, 1), 1)))


class EqualTest(unittest.TestCase):
    def test_equal(self):
        one = made_patches(4, 2, (((0, 1), 2), ((1, 2), 1)))
        same = made_patches(4, 2, (((1, 2), 1), ((0, 1), 1), ((0, 1), 1)))
        self.assertTrue(one == same)
        self.assertFalse(one != same)
        for other in (
            made_patches(5, 2, one.bundles), made_patches(4, 2, ()), made_patches(4, 2, (((0, 1), 2), ((1, 2), 2))),
            made_patches(4, 2, (((0, 1), 2), ((1, 3), 1))),
        ):
            self.assertFalse(one == other)
            self.assertTrue(one != other)
        self.assertFalse(made_patches(4, 2, ()) == made_patches(4, 3, ()))

    def test_other_values(self):
        one = made_patches(4, 2, ())
        for other in (None, 0, "", (), (4, 2, ()), made_web(4, 2, 1, "all", ())):
            self.assertIs(one == other, False)
            self.assertIs(one != other, True)


class HandyTest(unittest.TestCase):
    def test_handy(self):
        self.assertIs(patch_handy(made_patches(4, 2, ())), True)
        self.assertIs(patch_handy(patches=made_patches(4, 2, (((0, 1), 10 ** 9),))), True)
        pairs = tuple(((u, v), 1) for u in range(11) for v in range(u + 1, 11))
        self.assertIs(patch_handy(Patches(11, 2, pairs[:30])), True)
        self.assertIs(patch_handy(Patches(11, 2, pairs[:31])), False)
        self.assertIs(patch_handy(Patches(11, 2, (((0, 1), 10 ** 9 - 1), ((0, 2), 1)))), True)
        self.assertIs(patch_handy(Patches(11, 2, (((0, 1), 10 ** 9), ((0, 2), 1)))), False)


if __name__ == "__main__":
    unittest.main()
