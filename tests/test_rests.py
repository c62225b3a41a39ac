"""Point [1]: the wheel."""

import math
import unittest

from carriedends.errors import BadWheel
from carriedends.rests import lesser, measure, rest, scaled
from tests.helping import assert_refused, assert_same

GREATEST = 10 ** 6
HUGE = 10 ** 60 + 7


class RestTest(unittest.TestCase):
    def test_wheel_0_leaves_each_number(self):
        for x in (0, 1, -1, HUGE, -HUGE):
            assert_same(self, rest(x, 0), x)

    def test_rests_of_a_wheel(self):
        for x, M, due in ((0, 5, 0), (4, 5, 4), (5, 5, 0), (-1, 5, 4), (-5, 5, 0), (-11, 5, 4), (13, 5, 3)):
            assert_same(self, rest(x, M), due)

    def test_wheel_1(self):
        for x in (0, 1, -1, HUGE):
            assert_same(self, rest(x, 1), 0)

    def test_greatest_wheel_and_large_numbers(self):
        assert_same(self, rest(-1, GREATEST), GREATEST - 1)
        assert_same(self, rest(HUGE, GREATEST), 7)
        assert_same(self, rest(-HUGE, GREATEST), GREATEST - 7)


class MeasureTest(unittest.TestCase):
    def test_without_numbers_it_is_the_wheel(self):
        for M in (0, 1, 6, GREATEST):
            assert_same(self, measure(M, ()), M)

    def test_common_divisors(self):
        for M, numbers, due in (
            (0, (0,), 0), (0, (0, 0), 0), (0, (-4,), 4), (0, (4, -6), 2), (0, (0, 9), 9), (0, (-6, 0, -9), 3),
            (6, (4,), 2), (6, (0,), 6), (6, (-3, 2), 1), (12, (8, 6), 2), (12, (24, -36), 12), (1, (5,), 1),
            (GREATEST, (HUGE - 7,), GREATEST),
        ):
            assert_same(self, measure(M, numbers), due)

    def test_large_numbers_with_wheel_0(self):
        assert_same(self, measure(0, (6 * HUGE, -4 * HUGE)), 2 * HUGE)


class LesserTest(unittest.TestCase):
    def test_example(self):
        assert_same(self, lesser(4, 5), 1)

    def test_wheel_0_is_the_absolute_value(self):
        for x, due in ((0, 0), (7, 7), (-7, 7), (-HUGE, HUGE)):
            assert_same(self, lesser(x, 0), due)

    def test_by_a_wheel(self):
        for x, M, due in ((0, 6, 0), (1, 6, 1), (2, 6, 2), (3, 6, 3), (4, 6, 2), (5, 6, 1), (6, 6, 0),
                          (-1, 6, 1), (-2, 6, 2), (2, 5, 2), (3, 5, 2), (9, 1, 0), (1, 2, 1),
                          (-1, GREATEST, 1), (GREATEST // 2 + 1, GREATEST, GREATEST // 2 - 1)):
            assert_same(self, lesser(x, M), due)


class ScaledTest(unittest.TestCase):
    def test_examples(self):
        assert_same(self, scaled(4, 6), 2)
        assert_same(self, scaled(0, 6), 0)

    def test_least_of_all(self):
        for M in range(1, 41):
            for d in range(-M - 3, 2 * M + 4):
                due = min(x for x in range(M) if (x * d - math.gcd(M, d)) % M == 0)
                assert_same(self, scaled(d, M), due)

    def test_wheel_1(self):
        for d in (0, 1, -5, HUGE):
            assert_same(self, scaled(d, 1), 0)

    def test_greatest_wheel(self):
        for d in (1, 3, 999999, -7, HUGE, -HUGE, 5 ** 9, 2 ** 50):
            x = scaled(d, GREATEST)
            common = math.gcd(d, GREATEST)
            self.assertTrue(0 <= x < GREATEST // common)
            self.assertEqual((x * d - common) % GREATEST, 0)


class BadWheelTest(unittest.TestCase):
    def test_wheel_out_of_its_bounds(self):
        for M in (-1, -HUGE, GREATEST + 1, HUGE):
            assert_refused(self, BadWheel, M, rest, 3, M)
            assert_refused(self, BadWheel, M, measure, M, (3,))
            assert_refused(self, BadWheel, M, measure, M, ())
            assert_refused(self, BadWheel, M, lesser, 3, M)
            assert_refused(self, BadWheel, M, scaled, 3, M)

    def test_scaled_has_no_wheel_0(self):
        assert_refused(self, BadWheel, 0, scaled, 4, 0)
        assert_refused(self, BadWheel, 0, scaled, 0, 0)

    def test_by_name(self):
        self.assertEqual(rest(M=5, x=7), 2)
        self.assertEqual(measure(numbers=(4,), M=6), 2)
        self.assertEqual(lesser(M=5, x=4), 1)
        self.assertEqual(scaled(M=6, d=4), 2)


if __name__ == "__main__":
    unittest.main()
