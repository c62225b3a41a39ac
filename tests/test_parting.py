"""Point [2]: partings and their signs."""

import math
import unittest

from carriedends.errors import BadCount, BadSize
from carriedends.parting import partings, sign_of
from tests.helping import assert_refused, assert_same

# How many ways there are to write b as a sum, and to part b distinguishable things, for b from 1 on.
SUMS = (1, 2, 3, 5, 7, 11, 15, 22, 30, 42, 56, 77, 101, 135, 176, 231, 297, 385, 490, 627)
BELLS = (1, 2, 5, 15, 52, 203, 877, 4140, 21147, 115975, 678570, 4213597, 27644437, 190899322, 1382958545,
         10480142147, 82864869804, 682076806159, 5832742205057, 51724158235372)


def set_partings(things):
    """All ways to part a list of things into sets."""
    if not things:
        yield []
        return
    first, rest = things[0], things[1:]
    for sets in set_partings(rest):
        yield [[first]] + sets
        for at in range(len(sets)):
            yield sets[:at] + [[first] + sets[at]] + sets[at + 1:]


class PartingsTest(unittest.TestCase):
    def test_example(self):
        assert_same(self, partings(3), (((3,), 1), ((2, 1), 3), ((1, 1, 1), 1)))

    def test_least(self):
        assert_same(self, partings(1), (((1,), 1),))

    def test_four(self):
        assert_same(self, partings(4), (((4,), 1), ((3, 1), 4), ((2, 2), 3), ((2, 1, 1), 6), ((1, 1, 1, 1), 1)))

    def test_counted_one_by_one(self):
        for b in range(1, 9):
            ways = {}
            for sets in set_partings(list(range(b))):
                parts = tuple(sorted((len(part) for part in sets), reverse=True))
                ways[parts] = ways.get(parts, 0) + 1
            assert_same(self, partings(b), tuple((parts, ways[parts]) for parts in sorted(ways, reverse=True)))

    def test_each_b(self):
        for b in range(1, 21):
            found = partings(b)
            lists = [parts for parts, _ in found]
            self.assertEqual(lists, sorted(set(lists), reverse=True))
            self.assertEqual(len(found), SUMS[b - 1])
            self.assertEqual(sum(ways for _, ways in found), BELLS[b - 1])
            for parts in lists:
                self.assertEqual(sum(parts), b)
                self.assertEqual(list(parts), sorted(parts, reverse=True))
                self.assertGreaterEqual(parts[-1], 1)

    def test_refused(self):
        for b in (0, -1, 21, 10 ** 30):
            assert_refused(self, BadSize, b, partings, b)

    def test_by_name(self):
        self.assertEqual(partings(b=2), (((2,), 1), ((1, 1), 1)))


class SignTest(unittest.TestCase):
    def test_each_m(self):
        for m, due in ((1, 1), (2, -1), (3, 2), (4, -6), (5, 24), (6, -120)):
            assert_same(self, sign_of(m), due)
        assert_same(self, sign_of(19), math.factorial(18))
        assert_same(self, sign_of(20), -math.factorial(19))

    def test_sum_over_all_partings(self):
        for q in range(1, 21):
            due = 1 if q == 1 else 0
            self.assertEqual(sum(ways * sign_of(len(parts)) for parts, ways in partings(q)), due)

    def test_refused(self):
        for m in (0, -1, 21, -10 ** 30):
            assert_refused(self, BadCount, m, sign_of, m)

    def test_by_name(self):
        self.assertEqual(sign_of(m=3), 2)


if __name__ == "__main__":
    unittest.main()
