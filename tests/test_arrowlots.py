"""Point [26]: lots and ledgers of bags of arrows."""

import random
import unittest

from carriedends.arrowlots import arrow_joined, arrow_ledger, arrow_lots
from carriedends.arrows import Arrows, made_arrows
from carriedends.errors import Unlike
from tests.helping import assert_refused, assert_same
from tests.plainarrows import arrow_bagged, classes_of_arrows


class LotsTest(unittest.TestCase):
    def test_lots(self):
        arrows = made_arrows(10, (
            (4, 1, 2), (4, 6, 10 ** 8), (6, 1, 1), (5, 2, 3), (2, 5, 1), (9, 7, 1), (9, 8, 4),
        ))
        assert_same(self, arrow_lots(arrows), ((0,), (1, 4, 6), (2, 5), (3,), (7, 8, 9)))
        assert_same(self, arrow_ledger(arrows), (
            ("one", 0), ("free", (1, 4, 6), (0, 10 ** 8 + 2, 1)), ("stuck", (2, 5), ((2, 5, 1), (5, 2, 3))), ("one", 3),
            ("stuck", (7, 8, 9), ((9, 7, 1), (9, 8, 4))),
        ))
        assert_same(self, arrow_lots(arrows=made_arrows(1, ())), ((0,),))
        assert_same(self, arrow_ledger(arrows=made_arrows(1, ())), (("one", 0),))

    def test_whichever_way_they_point(self):
        for bundles in (((0, 1, 1), (1, 2, 1)), ((1, 0, 1), (1, 2, 1)), ((0, 1, 1), (2, 1, 1)), ((1, 0, 1), (2, 1, 1))):
            assert_same(self, arrow_lots(made_arrows(3, bundles)), ((0, 1, 2),))

    def test_one_owner(self):
        # The last example of [28].
        one, other = made_arrows(3, ((0, 1, 2), (0, 2, 1))), made_arrows(3, ((0, 1, 1), (0, 2, 2)))
        assert_same(self, arrow_ledger(one), (("stuck", (0, 1, 2), ((0, 1, 2), (0, 2, 1))),))
        self.assertIs(arrow_joined(one, other), False)
        self.assertIs(arrow_joined(one, one), True)

    def test_bags_that_are_not_handy(self):
        arrows = Arrows(10, tuple((u, v, 10 ** 9) for u in range(10) for v in range(10) if u != v))
        assert_same(self, arrow_ledger(arrows), (("free", tuple(range(10)), (9 * 10 ** 9,) * 10),))


class JoinedTest(unittest.TestCase):
    def test_joined(self):
        one = made_arrows(3, ((0, 1, 1), (1, 2, 2)))
        for bundles, due in (
            (((0, 2, 1), (1, 0, 2)), True), (((0, 1, 1), (1, 0, 1), (1, 2, 1)), True),
            (((0, 1, 2), (1, 2, 1)), False), (((0, 1, 1), (1, 2, 1), (2, 0, 1)), False), (((0, 1, 1), (1, 0, 2)), False),
            ((), False),
        ):
            self.assertIs(arrow_joined(one, made_arrows(3, bundles)), due)
        self.assertIs(arrow_joined(other=one, one=one), True)

    def test_joined_exactly_if_led_to(self):
        rng = random.Random(26)
        for n, count in ((2, 3), (3, 1), (3, 2), (3, 3), (3, 4), (4, 2), (4, 3)):
            bags = [
                (arrow_bagged(n, arrows), index)
                for index, together in enumerate(classes_of_arrows(n, count)) for arrows in together
            ]
            for one, at in rng.sample(bags, min(40, len(bags))):
                for other, there in bags:
                    self.assertIs(arrow_joined(one, other), at == there)

    def test_unlike(self):
        assert_refused(self, Unlike, "n", arrow_joined, Arrows(5, ()), Arrows(4, ()))
        assert_refused(self, Unlike, "n", arrow_joined, Arrows(4, ()), Arrows(5, ()))


if __name__ == "__main__":
    unittest.main()
