"""Point [24]: bags of arrows."""

import unittest

from carriedends.arrows import Arrows, arrow_handy, made_arrows
from carriedends.errors import BadBundle, BadSize, TooMany
from carriedends.patches import made_patches
from tests.helping import assert_refused, assert_same


class MadeArrowsTest(unittest.TestCase):
    def test_bundles_are_added_and_ordered(self):
        found = made_arrows(4, ((2, 1, 3), (0, 3, 1), (1, 2, 5), (2, 1, 10 ** 9 - 11), (2, 0, 2)))
        self.assertIs(type(found), Arrows)
        self.assertEqual(found.n, 4)
        assert_same(self, found.bundles, ((0, 3, 1), (1, 2, 5), (2, 0, 2), (2, 1, 10 ** 9 - 8)))
        assert_same(self, made_arrows(bundles=((1, 0, 1),), n=2).bundles, ((1, 0, 1),))

    def test_both_ways_are_different(self):
        assert_same(self, made_arrows(2, ((1, 0, 1), (0, 1, 1))).bundles, ((0, 1, 1), (1, 0, 1)))

    def test_sizes(self):
        for n in (1, 2, 10):
            found = made_arrows(n, ())
            self.assertEqual((found.n, found.bundles), (n, ()))
        for n in (0, -1, 11, 10 ** 20):
            assert_refused(self, BadSize, n, made_arrows, n, (None,) * 31)
        self.assertEqual(made_arrows(10, ((9, 8, 1),)).bundles, ((9, 8, 1),))
        assert_refused(self, BadBundle, 0, made_arrows, 1, ((0, 0, 1),))
        assert_refused(self, BadBundle, 0, made_arrows, 1, ((0, 1, 1),))

    def test_how_many_bundles(self):
        for bundle in ((0, 1, 1), None):
            assert_refused(self, TooMany, 31, made_arrows, 3, (bundle,) * 31)
        self.assertEqual(made_arrows(3, ((0, 1, 1),) * 30).bundles, ((0, 1, 30),))

    def test_bad_bundles(self):
        for bad in (
            None, 0, "", "011", (), (0, 1), (0, 1, 1, 1), (0, 0, 1), (3, 3, 1), (0, 4, 1), (4, 0, 1), (0, -1, 1),
            (-1, 0, 1), (0, 1, 0), (0, 1, -1), (0, 1, 10 ** 9 + 1), (0, 1, None), (0, 1, "1"), (0, 1, (1,)),
            (None, 1, 1), (0, "1", 1), ((0, 1), 1), ((0,), 1, 1), ((0, 1, 1),), (0, 10 ** 30, 1),
        ):
            assert_refused(self, BadBundle, 0, made_arrows, 4, (bad,))
            assert_refused(self, BadBundle, 2, made_arrows, 4, ((0, 1, 1), (3, 0, 1), bad, None))

    def test_sum_of_counts(self):
        most = 10 ** 9
        self.assertEqual(made_arrows(3, ((0, 1, most),)).bundles, ((0, 1, most),))
        self.assertEqual(made_arrows(3, ((0, 1, most - 1), (0, 1, 1))).bundles, ((0, 1, most),))
        assert_refused(self, BadBundle, 1, made_arrows, 3, ((0, 1, most), (1, 0, 1)))
        assert_refused(self, BadBundle, 2, made_arrows, 3, ((0, 1, 1), (1, 2, most - 1), (1, 2, 1), None))

    def test_nothing_is_changed(self):
        bundles = ((1, 2, 3), (0, 1, 1))
        made_arrows(3, bundles)
        self.assertEqual(bundles, ((1, 2, 3), (0, 1, 1)))


class EqualTest(unittest.TestCase):
    def test_equal(self):
        one = made_arrows(4, ((0, 1, 2), (1, 2, 1)))
        same = made_arrows(4, ((1, 2, 1), (0, 1, 1), (0, 1, 1)))
        self.assertIs(one == same, True)
        self.assertIs(one != same, False)
        for other in (
            made_arrows(5, one.bundles), made_arrows(4, ()), made_arrows(4, ((0, 1, 2), (1, 2, 2))),
            made_arrows(4, ((0, 1, 2), (2, 1, 1))),
        ):
            self.assertIs(one == other, False)
            self.assertIs(one != other, True)

    def test_other_values(self):
        one = made_arrows(4, ())
        for other in (None, 0, "", (), (4, ()), made_patches(4, 2, ())):
            self.assertIs(one == other, False)
            self.assertIs(one != other, True)
        self.assertIs(made_patches(4, 2, ()) == one, False)


class HandyTest(unittest.TestCase):
    def test_handy(self):
        self.assertIs(arrow_handy(made_arrows(4, ())), True)
        self.assertIs(arrow_handy(arrows=made_arrows(4, ((0, 1, 10 ** 9),))), True)
        pairs = tuple((u, v, 1) for u in range(10) for v in range(10) if u != v)
        self.assertIs(arrow_handy(Arrows(10, pairs[:30])), True)
        self.assertIs(arrow_handy(Arrows(10, pairs[:31])), False)
        self.assertIs(arrow_handy(Arrows(10, ((0, 1, 10 ** 9 - 1), (1, 0, 1)))), True)
        self.assertIs(arrow_handy(Arrows(10, ((0, 1, 10 ** 9), (1, 0, 1)))), False)


if __name__ == "__main__":
    unittest.main()
