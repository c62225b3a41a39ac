"""Point [16]: connected bags, trees, bags with one ring."""

import itertools
import math
import unittest

from carriedends.choosing import bags
from carriedends.connected import connected, one_ring, trees
from carriedends.errors import BadCount, BadSize
from carriedends.lots import hanging
from tests.helping import assert_refused


def plain_connected(b, counts, kinds):
    """All bags, each looked at."""
    threads = [(u, v, kind) for u, v in itertools.combinations(range(b), 2) for kind in range(kinds)]
    bags_of_coats = [list(itertools.combinations_with_replacement(threads, count)) for count in counts]
    return sum(
        len(hanging(b, [thread for bag in picked for thread in bag])) == 1
        for picked in itertools.product(*bags_of_coats)
    )


class ConnectedTest(unittest.TestCase):
    def test_examples(self):
        for kinds in (1, 2, 7, 1000):
            for many in (1, 2, 5, 60):
                self.assertEqual(connected(2, (many,), kinds), bags(kinds, many))
            self.assertEqual(connected(2, (0,), kinds), 0)
        self.assertEqual(connected(3, (2,), 1), 3)
        self.assertEqual(connected(kinds=1, counts=(2,), b=3), 3)

    def test_one_place(self):
        for kinds in (1, 3, 10 ** 6):
            self.assertEqual(connected(1, (0,), kinds), 1)
            self.assertEqual(connected(1, (0, 0, 0, 0), kinds), 1)
            self.assertEqual(connected(1, (1,), kinds), 0)
            self.assertEqual(connected(1, (0, 10 ** 9), kinds), 0)

    def test_against_all_bags(self):
        for b, counts, kinds in (
            [(2, (many,), kinds) for many in range(5) for kinds in (1, 2, 3)]
            + [(3, (many,), kinds) for many in range(6) for kinds in (1, 2)]
            + [(3, (2, 1), 2), (3, (1, 1), 1), (3, (0, 3), 1), (3, (2, 2), 1), (3, (1, 1, 1), 2), (3, (1, 0, 1, 1), 1)]
            + [(4, (many,), 1) for many in range(7)] + [(4, (3,), 2), (4, (2, 2), 1), (4, (1, 2, 1), 1)]
            + [(5, (many,), 1) for many in range(3, 6)]
        ):
            self.assertEqual(connected(b, counts, kinds), plain_connected(b, counts, kinds), (b, counts, kinds))

    def test_too_few_threads(self):
        for b in range(2, 21):
            self.assertEqual(connected(b, (b - 2,), 1), 0)
            self.assertEqual(connected(b, (b - 1,), 1), trees(b))
            self.assertEqual(connected(b, (b - 1,), 3), trees(b) * 3 ** (b - 1))
        self.assertEqual(connected(20, (10, 8), 5), 0)
        self.assertEqual(connected(20, (10, 9), 1), trees(20) * math.comb(19, 9))

    def test_great_counts(self):
        most = 10 ** 9
        # Two places with one kind; three places: the threads lie at two or three of the pairs.
        self.assertEqual(connected(2, (most, most, most, most), 1), 1)
        self.assertEqual(connected(2, (most,), 400), bags(400, most))
        self.assertEqual(connected(3, (most,), 1), math.comb(most + 2, 2) - 3)
        self.assertEqual(connected(3, (most, 1), 1), 3 * math.comb(most + 2, 2) - 3)
        self.assertEqual(connected(3, (61,), 1), math.comb(63, 2) - 3)
        found = connected(20, (most,) * 4, 2)
        self.assertGreater(found.bit_length(), 30000)

    def test_bad_sizes(self):
        for b in (0, -1, 21, 10 ** 30):
            assert_refused(self, BadSize, b, connected, b, (), 0)
            assert_refused(self, BadSize, b, trees, b)
            assert_refused(self, BadSize, b, one_ring, b)
        self.assertGreater(connected(20, (60,), 10 ** 6), 0)

    def test_bad_counts(self):
        assert_refused(self, BadCount, 0, connected, 3, (), 0)
        assert_refused(self, BadCount, 0, connected, 3, (), 7)
        assert_refused(self, BadCount, 5, connected, 3, (-1,) * 5, 0)
        assert_refused(self, BadCount, 0, connected, 3, (-1, -1), 0)
        assert_refused(self, BadCount, 1, connected, 3, (0, 10 ** 9 + 1, -1), 0)
        assert_refused(self, BadCount, 3, connected, 3, (0, 10 ** 9, 1, -1), 0)

    def test_bad_kinds(self):
        for kinds in (0, -1, 10 ** 6 + 1):
            assert_refused(self, BadCount, kinds, connected, 3, (1,), kinds)
        self.assertEqual(connected(3, (2,), 10 ** 6), 3 * 10 ** 12)
        # 400 is let, and so is more while no count is above 60.
        for b, kinds in ((2, 400), (3, 133), (5, 40), (20, 2)):
            for counts in ((61,), (1, 61), (10 ** 9, 0)):
                connected(b, counts, kinds)
                assert_refused(self, BadCount, kinds + 1, connected, b, counts, kinds + 1)
            connected(b, (60, 60, 60, 60), kinds + 1)
        connected(1, (61,), 10 ** 6)


class TreesTest(unittest.TestCase):
    def test_trees(self):
        self.assertEqual([trees(b) for b in range(1, 6)], [1, 1, 3, 16, 125])
        self.assertEqual(trees(b=20), 20 ** 18)
        for b in range(1, 6):
            self.assertEqual(trees(b), plain_connected(b, (b - 1,), 1))

    def test_one_ring(self):
        self.assertEqual([one_ring(b) for b in range(1, 5)], [0, 0, 1, 15])
        for b in range(1, 7):
            pairs = list(itertools.combinations(range(b), 2))
            due = sum(len(hanging(b, picked)) == 1 for picked in itertools.combinations(pairs, b))
            self.assertEqual(one_ring(b=b), due)
        # All bags of b threads that hang b places together: a ring, or a tree of which one thread is there twice.
        for b in range(2, 21):
            self.assertEqual(connected(b, (b,), 1), one_ring(b) + trees(b) * (b - 1))


if __name__ == "__main__":
    unittest.main()
