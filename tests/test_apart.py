"""Point [18]: how many threads of one web are not in another."""

import random
import unittest

from carriedends.apart import apart
from carriedends.errors import Unlike
from carriedends.webs import Web, made_web
from tests.helping import assert_refused, assert_same, random_web
from tests.plainly import single


class ApartTest(unittest.TestCase):
    def test_example(self):
        one = made_web(3, 1, 2, "others", ((0, 1, 0, 0, 1), (0, 2, 0, 1, 1)))
        other = made_web(3, 1, 2, "others", ((0, 1, 0, 1, 1), (0, 2, 0, 0, 1)))
        assert_same(self, apart(one, other), 2)

    def test_counts(self):
        one = made_web(3, 0, 2, "all", ((0, 1, 5, 0, 10 ** 9 - 2), (0, 1, 5, 1, 2)))
        other = made_web(3, 0, 2, "all", ((0, 1, 5, 0, 3), (0, 1, 6, 1, 1), (0, 1, -5, 0, 7)))
        assert_same(self, apart(one, other), 10 ** 9 - 3)
        assert_same(self, apart(other, one), 8)
        assert_same(self, apart(one, one), 0)
        assert_same(self, apart(one=one, other=made_web(3, 0, 2, "all", ())), 10 ** 9)
        assert_same(self, apart(made_web(3, 0, 2, "all", ()), one), 0)

    def test_against_single_threads(self):
        rng = random.Random(18)
        for _ in range(100):
            one, other = [
                random_web(rng, n=3, wheel=2, coats=2, rule="own", bundles=rng.randint(0, 8), counts=(1, 2, 3))
                for _ in range(2)
            ]
            left = list(single(other))
            missing = 0
            for thread in single(one):
                if thread in left:
                    left.remove(thread)
                else:
                    missing += 1
            assert_same(self, apart(one, other), missing)

    def test_webs_need_neither_be_joined_nor_handy(self):
        wide = Web(3, 0, 1, "all", ((0, 1, 10 ** 50, 0, 10 ** 9), (1, 2, 0, 0, 5)))
        assert_same(self, apart(wide, Web(3, 0, 1, "all", ((0, 1, 10 ** 50, 0, 4),))), 10 ** 9 + 1)

    def test_unlike_webs(self):
        one = made_web(3, 5, 2, "all", ())
        for name, other in (
            ("n", made_web(2, 6, 1, "own", ())), ("wheel", made_web(3, 6, 1, "own", ())),
            ("coats", made_web(3, 5, 1, "own", ())), ("rule", made_web(3, 5, 2, "own", ())),
        ):
            assert_refused(self, Unlike, name, apart, one, other)
            assert_refused(self, Unlike, name, apart, other, one)


if __name__ == "__main__":
    unittest.main()
