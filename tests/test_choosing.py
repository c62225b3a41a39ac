"""Point [2]: choosing things and bags of things."""

import itertools
import unittest

from carriedends.choosing import bags, choose
from carriedends.errors import BadCount
from tests.helping import assert_refused, assert_same

HUGE = 10 ** 50


class ChooseTest(unittest.TestCase):
    def test_counted_one_by_one(self):
        for a in range(9):
            for b in range(11):
                assert_same(self, choose(a, b), len(list(itertools.combinations(range(a), b))))

    def test_more_than_there_are(self):
        for a, b in ((0, 1), (3, 4), (399, 400), (0, 400)):
            assert_same(self, choose(a, b), 0)

    def test_greatest_b(self):
        assert_same(self, choose(400, 400), 1)
        assert_same(self, choose(401, 400), 401)
        assert_same(self, choose(402, 400), 402 * 401 // 2)

    def test_a_of_any_size(self):
        assert_same(self, choose(HUGE, 0), 1)
        assert_same(self, choose(HUGE, 3), HUGE * (HUGE - 1) * (HUGE - 2) // 6)
        self.assertEqual(choose(HUGE + 1, 400), choose(HUGE, 400) + choose(HUGE, 399))

    def test_refused(self):
        assert_refused(self, BadCount, -1, choose, -1, 0)
        assert_refused(self, BadCount, -HUGE, choose, -HUGE, 2)
        assert_refused(self, BadCount, -1, choose, 5, -1)
        assert_refused(self, BadCount, 401, choose, 500, 401)
        assert_refused(self, BadCount, 401, choose, 0, 401)

    def test_a_is_checked_before_b(self):
        assert_refused(self, BadCount, -3, choose, -3, -2)
        assert_refused(self, BadCount, -3, choose, -3, 401)


class BagsTest(unittest.TestCase):
    def test_counted_one_by_one(self):
        for kinds in range(6):
            for much in range(6):
                due = len(list(itertools.combinations_with_replacement(range(kinds), much)))
                assert_same(self, bags(kinds, much), due)

    def test_no_kinds(self):
        assert_same(self, bags(0, 0), 1)
        for much in (1, 2, 61, HUGE):
            assert_same(self, bags(0, much), 0)

    def test_no_things(self):
        for kinds in (0, 1, 400, 401, HUGE):
            assert_same(self, bags(kinds, 0), 1)

    def test_one_kind(self):
        assert_same(self, bags(1, HUGE), 1)

    def test_many_things_of_few_kinds(self):
        assert_same(self, bags(2, HUGE), HUGE + 1)
        self.assertEqual(bags(400, 10 ** 9), bags(399, 10 ** 9) + bags(400, 10 ** 9 - 1))
        self.assertEqual(bags(400, HUGE), bags(399, HUGE) + bags(400, HUGE - 1))

    def test_few_things_of_many_kinds(self):
        assert_same(self, bags(HUGE, 2), HUGE * (HUGE + 1) // 2)
        self.assertEqual(bags(HUGE, 60), bags(HUGE - 1, 60) + bags(HUGE, 59))
        self.assertEqual(bags(401, 60), bags(400, 60) + bags(401, 59))

    def test_edges_of_the_limit(self):
        self.assertEqual(bags(400, 61), bags(399, 61) + bags(400, 60))
        assert_refused(self, BadCount, 401, bags, 401, 61)
        assert_refused(self, BadCount, HUGE, bags, HUGE, HUGE)

    def test_first_one_below_0(self):
        assert_refused(self, BadCount, -1, bags, -1, 5)
        assert_refused(self, BadCount, -2, bags, 5, -2)
        assert_refused(self, BadCount, -1, bags, -1, -2)
        assert_refused(self, BadCount, -2, bags, 401, -2)
        assert_refused(self, BadCount, -1, bags, 0, -1)
        assert_refused(self, BadCount, -1, bags, 1, -1)
        assert_refused(self, BadCount, -1, bags, -1, 0)
        assert_refused(self, BadCount, -1, bags, -1, 61)

    def test_by_name(self):
        self.assertEqual(choose(b=2, a=5), 10)
        self.assertEqual(bags(many=2, kinds=3), 6)


if __name__ == "__main__":
    unittest.main()
