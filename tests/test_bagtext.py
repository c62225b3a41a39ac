"""Point [31]: texts of bags of patches and of arrows."""

import itertools
import random
import unittest

from carriedends.arrows import Arrows, made_arrows
from carriedends.bagtext import arrows_of, patches_of, text_of_arrows, text_of_patches
from carriedends.errors import BadText, Wide
from carriedends.patches import Patches, made_patches
from tests.helping import assert_refused, assert_same
from tests.plainarrows import random_arrows
from tests.plaintexts import SIGNS, arrows_fault, patches_fault, spoilt

PATCHES = "patches 5 3\npatch 0 1 2 1\npatch 0 1 4 10\npatch 2 3 4 7"
ARROWS = "arrows 4\narrow 0 1 2\narrow 0 3 10\narrow 3 0 5"


class BagTextTest(unittest.TestCase):
    def assert_patches(self, text):
        fault = patches_fault(text)
        if fault is None:
            self.assertIs(type(patches_of(text)), Patches)
            self.assertEqual(text_of_patches(patches_of(text)), text)
        else:
            assert_refused(self, BadText, fault, patches_of, text)

    def assert_arrows(self, text):
        fault = arrows_fault(text)
        if fault is None:
            self.assertIs(type(arrows_of(text)), Arrows)
            self.assertEqual(text_of_arrows(arrows_of(text)), text)
        else:
            assert_refused(self, BadText, fault, arrows_of, text)


class PatchesTextTest(BagTextTest):
    def test_rows(self):
        bag = made_patches(5, 3, (((2, 3, 4), 7), ((0, 1, 4), 10), ((0, 1, 2), 1)))
        assert_same(self, text_of_patches(bag), PATCHES)
        self.assertEqual(patches_of(PATCHES), bag)
        assert_same(self, patches_of(text=text_of_patches(patches=bag)).bundles, bag.bundles)
        self.assertEqual(text_of_patches(made_patches(3, 4, ())), "patches 3 4")
        self.assertEqual(patches_of("patches 3 4"), made_patches(3, 4, ()))
        text = "patches 11 4\npatch 7 8 9 10 1000000000"
        self.assertEqual(text_of_patches(patches_of(text)), text)
        self.assertEqual(patches_of("patches 11 2\npatch 9 10 1").bundles, (((9, 10), 1),))

    def test_random_bags(self):
        rng = random.Random(312)
        for _ in range(100):
            n, k = rng.randint(4, 11), rng.randint(2, 4)
            bag = made_patches(n, k, tuple(
                (tuple(sorted(rng.sample(range(n), k))), rng.randint(1, 10 ** 7)) for _ in range(rng.randint(0, 30))
            ))
            self.assertEqual(patches_of(text_of_patches(bag)), bag)
            self.assert_patches(text_of_patches(bag))

    def test_spoilt_texts(self):
        for text in (PATCHES, "patches 4 2\npatch 0 1 1\npatch 0 2 1", "patches 11 4\npatch 0 1 2 10 9", "patches 1 4"):
            for near in spoilt(text, SIGNS):
                self.assert_patches(near)

    def test_bad_rows(self):
        for text, row in (
            ("", 0), ("patches", 0), ("patches 5", 0), ("patches 0 3", 0), ("patches 12 3", 0), ("patches 5 1", 0),
            ("patches 5 5", 0), ("patches 5 3 1", 0), ("patch 5 3", 0), ("patches -5 3", 0), ("arrows 5", 0),
            ("patches 5 3\n", 1), ("patches 5 3\npatch 0 1 2", 1), ("patches 5 3\npatch 0 1 2 3 1", 1),
            ("patches 5 3\npatch 0 2 1 1", 1), ("patches 5 3\npatch 0 1 1 1", 1), ("patches 5 3\npatch 0 1 5 1", 1),
            ("patches 5 3\npatch 0 1 2 0", 1), ("patches 5 3\npatch 0 1 2 1000000001", 1), ("patches 5 3\npatch -0 1 2 1", 1),
            ("patches 2 3\npatch 0 1 2 1", 1), ("patches 5 3\npatch 0 1 2 1\npatch 0 1 2 1", 2), (PATCHES + "\npatch 0 1 2 1", 4),
            ("patches 5 3\npatch 0 1 3 1\npatch 0 1 2 1", 2), ("patches 5 3\npatch 0 1 3 1\npatch 0 1 3 2\npatch", 2),
            (PATCHES.replace("patch 2", "arrow 2"), 3), (PATCHES + "\n", 4),
        ):
            self.assertEqual(patches_fault(text), row)
            assert_refused(self, BadText, row, patches_of, text)

    def test_faults_of_all_rows_together(self):
        corners = [f"patch {u} {v} " for u, v in itertools.combinations(range(11), 2)]
        rows = ["patches 11 2"] + [row + "1" for row in corners]
        self.assert_patches("\n".join(rows[:31]))
        assert_refused(self, BadText, 32, patches_of, "\n".join(rows[:32]))
        assert_refused(self, BadText, 56, patches_of, "\n".join(rows))
        text = "patches 5 2\npatch 0 1 999999999\npatch 0 2 "
        self.assert_patches(text + "1")
        assert_refused(self, BadText, 3, patches_of, text + "2")
        assert_refused(self, BadText, 3, patches_of, text + "2\npatch 0 2 1")

    def test_wide(self):
        bundles = tuple((corners, 1) for corners in itertools.combinations(range(11), 2))
        self.assert_patches(text_of_patches(Patches(11, 2, bundles[:30])))
        for bag in (Patches(11, 2, bundles[:31]), Patches(11, 2, (((0, 1), 10 ** 9), ((0, 2), 1)))):
            assert_refused(self, Wide, 0, text_of_patches, bag)


class ArrowsTextTest(BagTextTest):
    def test_rows(self):
        bag = made_arrows(4, ((3, 0, 5), (0, 3, 10), (0, 1, 2)))
        assert_same(self, text_of_arrows(bag), ARROWS)
        self.assertEqual(arrows_of(ARROWS), bag)
        assert_same(self, arrows_of(text=text_of_arrows(arrows=bag)).bundles, bag.bundles)
        self.assertEqual(text_of_arrows(made_arrows(1, ())), "arrows 1")
        self.assertEqual(arrows_of("arrows 10\narrow 9 8 1000000000"), made_arrows(10, ((9, 8, 10 ** 9),)))

    def test_random_bags(self):
        rng = random.Random(313)
        for _ in range(100):
            bag = random_arrows(rng, n=rng.randint(2, 10), bundles=rng.randint(0, 30))
            self.assertEqual(arrows_of(text_of_arrows(bag)), bag)
            self.assert_arrows(text_of_arrows(bag))

    def test_spoilt_texts(self):
        for text in (ARROWS, "arrows 10\narrow 9 8 1\narrow 9 9 1", "arrows 1"):
            for near in spoilt(text, SIGNS):
                self.assert_arrows(near)

    def test_bad_rows(self):
        for text, row in (
            ("", 0), ("arrows", 0), ("arrows 0", 0), ("arrows 11", 0), ("arrows 4 1", 0), ("arrow 4", 0), ("arrows -4", 0),
            ("arrows 4\n", 1), ("arrows 4\narrow 0 1", 1), ("arrows 4\narrow 0 1 1 1", 1), ("arrows 4\narrow 0 0 1", 1),
            ("arrows 4\narrow 0 4 1", 1), ("arrows 4\narrow 4 0 1", 1), ("arrows 4\narrow 0 1 0", 1),
            ("arrows 4\narrow 0 1 1000000001", 1), ("arrows 4\narrow 0 -1 1", 1), ("arrows 4\narrows 0 1 1", 1),
            ("arrows 4\narrow 0 1 1\narrow 0 1 1", 2), ("arrows 4\narrow 1 0 1\narrow 0 1 1", 2), (ARROWS + "\n", 4),
        ):
            self.assertEqual(arrows_fault(text), row)
            assert_refused(self, BadText, row, arrows_of, text)

    def test_faults_of_all_rows_together(self):
        rows = ["arrows 10"] + [f"arrow {u} {v} 1" for u, v in itertools.permutations(range(10), 2)]
        self.assert_arrows("\n".join(rows[:31]))
        assert_refused(self, BadText, 32, arrows_of, "\n".join(rows[:32]))
        assert_refused(self, BadText, 91, arrows_of, "\n".join(rows))
        text = "arrows 5\narrow 0 1 999999999\narrow 1 0 "
        self.assert_arrows(text + "1")
        assert_refused(self, BadText, 3, arrows_of, text + "2")
        assert_refused(self, BadText, 3, arrows_of, text + "2\narrow 1 0 1")

    def test_wide(self):
        bundles = tuple((u, v, 1) for u, v in itertools.permutations(range(10), 2))
        self.assert_arrows(text_of_arrows(Arrows(10, bundles[:30])))
        for bag in (Arrows(10, bundles[:31]), Arrows(10, ((0, 1, 10 ** 9), (1, 0, 1)))):
            assert_refused(self, Wide, 0, text_of_arrows, bag)


if __name__ == "__main__":
    unittest.main()
