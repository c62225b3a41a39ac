"""The second telling of webs itself, by cases that are written out."""

import unittest

from tests.plainly import all_bags, classes, reached, single, slid, webbed


class PlainlyTest(unittest.TestCase):
    def test_slides_of_two_threads(self):
        threads = ((0, 1, 0, 0), (0, 2, 0, 1))
        self.assertEqual(sorted(slid(1, "others", threads)), [
            (((0, 1, 0, 0), (1, 2, 0, 1)), (2, 0, 0, 1, 1, 0, 0)),
            (((0, 2, 0, 1), (1, 2, 0, 0)), (1, 0, 0, 0, 2, 0, 1)),
        ])
        self.assertEqual(list(slid(1, "own", threads)), [])
        self.assertEqual(len(reached(1, "others", threads)), 6)
        self.assertEqual(len(reached(1, "own", threads)), 1)

    def test_lengths_of_slides(self):
        self.assertIn(
            (((0, 2, 3, 0), (1, 2, 2, 0)), (0, 1, 1, 0, 2, 2, 0)), list(slid(5, "all", ((0, 1, 1, 0), (1, 2, 2, 0))))
        )
        self.assertIn(
            (((0, 1, 1, 0), (0, 2, 3, 0)), (2, 1, 3, 0, 0, 4, 0)), list(slid(5, "all", ((0, 1, 1, 0), (1, 2, 2, 0))))
        )

    def test_bags_and_classes(self):
        self.assertEqual(len(all_bags(3, 5, 1, 3)), 680)
        # Of the example of [17]: 25 + 1 + 1 ledgers of one lot, and 105 of two.
        sizes = sorted(len(together) for together in classes(3, 5, 1, "all", 3))
        self.assertEqual(sizes, [1] * 105 + [7] * 25 + [200] * 2)

    def test_webs_of_single_threads(self):
        threads = ((0, 1, 0, 0), (0, 1, 0, 0), (1, 2, 4, 1))
        web = webbed(4, 5, 2, "own", threads)
        self.assertEqual(web.bundles, ((0, 1, 0, 0, 2), (1, 2, 4, 1, 1)))
        self.assertEqual(single(web), threads)


if __name__ == "__main__":
    unittest.main()
