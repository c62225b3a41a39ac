"""Point [23]: numbers of bags of patches that hang together, sizes of classes of patches."""

import itertools
import math
import unittest

from carriedends.choosing import bags
from carriedends.connected import connected
from carriedends.errors import BadCount, BadSize
from carriedends.patchcount import connected_patches, patch_class_size
from carriedends.patches import Patches, made_patches
from carriedends.patchlots import patch_lots
from tests.helping import assert_refused
from tests.plainpatches import all_patch_bags, bagged, classes_of_patches


class ConnectedTest(unittest.TestCase):
    def test_examples(self):
        self.assertEqual(connected_patches(4, 3, 2), 6)
        self.assertEqual(connected_patches(5, 3, 2), 15)
        self.assertEqual(connected_patches(many=2, k=3, b=5), 15)

    def test_one_place(self):
        for k in (2, 3, 4):
            self.assertEqual([connected_patches(1, k, many) for many in (0, 1, 2, 10 ** 9)], [1, 0, 0, 0])

    def test_against_all_bags(self):
        for b, k, many in (
            [(b, 2, many) for b in (2, 3, 4) for many in range(6)] + [(5, 2, 4), (5, 2, 5)]
            + [(b, 3, many) for b in (2, 3, 4, 5) for many in range(4)] + [(6, 3, 3)]
            + [(b, 4, many) for b in (3, 4, 5, 6) for many in range(4)]
        ):
            due = sum(len(patch_lots(bagged(b, k, patches))) == 1 for patches in all_patch_bags(b, k, many))
            self.assertEqual(connected_patches(b, k, many), due, (b, k, many))

    def test_threads(self):
        for b, many in itertools.product((1, 2, 5, 11), (0, 1, 4, 12, 10 ** 9)):
            self.assertEqual(connected_patches(b, 2, many), connected(b, (many,), 1))

    def test_great_numbers(self):
        most = 10 ** 9
        self.assertEqual(connected_patches(3, 3, most), 1)
        self.assertEqual(connected_patches(4, 3, most), bags(4, most) - 4)
        # Three patches of four corners hang ten places together just if they make a tree: such trees are counted.
        self.assertEqual(connected_patches(11, 4, 3), 0)
        self.assertEqual(connected_patches(10, 4, 3), 10 ** 2 * math.factorial(9) // (6 ** 3 * math.factorial(3)))
        self.assertGreater(connected_patches(11, 4, most).bit_length(), 7000)

    def test_bad_arguments(self):
        for b in (0, -1, 12, 10 ** 30):
            assert_refused(self, BadSize, b, connected_patches, b, 5, -1)
        for k in (1, 0, -1, 5, 10 ** 30):
            assert_refused(self, BadCount, k, connected_patches, 11, k, -1)
        for many in (-1, 10 ** 9 + 1, -10 ** 30):
            assert_refused(self, BadCount, many, connected_patches, 11, 4, many)
            assert_refused(self, BadCount, many, connected_patches, 1, 2, many)


class ClassSizeTest(unittest.TestCase):
    def test_all_small_bags(self):
        for n, k, count in ((4, 2, 3), (3, 2, 4), (4, 3, 3), (5, 3, 2), (5, 3, 3), (5, 4, 3), (6, 4, 2)):
            for together in classes_of_patches(n, k, count):
                self.assertEqual(patch_class_size(bagged(n, k, min(together))), len(together))

    def test_products(self):
        bag = made_patches(11, 3, (((0, 1, 2), 1), ((2, 3, 4), 1), ((5, 6, 7), 1), ((6, 7, 8), 1)))
        self.assertEqual(patch_class_size(bag), 15 * 6)
        self.assertEqual(patch_class_size(patches=made_patches(11, 3, ())), 1)
        self.assertEqual(patch_class_size(made_patches(4, 4, (((0, 1, 2, 3), 10 ** 9),))), 1)

    def test_many_patches(self):
        bag = made_patches(4, 3, (((0, 1, 2), 10 ** 9 - 1), ((1, 2, 3), 1)))
        self.assertEqual(patch_class_size(bag), bags(4, 10 ** 9) - 4)
        # What is beyond the bounds of what can be handed in is counted all the same.
        bag = Patches(4, 3, (((0, 1, 2), 10 ** 10), ((1, 2, 3), 1)))
        self.assertEqual(patch_class_size(bag), bags(4, 10 ** 10 + 1) - 4)


if __name__ == "__main__":
    unittest.main()
