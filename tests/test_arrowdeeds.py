"""Point [25]: heads of arrows that are carried, runs of arrows."""

import itertools
import random
import unittest

from carriedends.arrowdeeds import (
    arrow_done, arrow_offers, arrow_run_right, arrow_slides, arrow_turned, arrow_walked,
)
from carriedends.arrowlots import arrow_joined
from carriedends.arrows import Arrows, made_arrows
from carriedends.errors import BadDeed, BadRow, TooMany
from tests.helping import assert_refused, assert_same
from tests.plainarrows import all_arrow_bags, arrow_bagged, arrow_slid, random_arrows

DEED = (0, 1, 2, 1)
BACK = (0, 2, 1, 1)


def start(*, many=2):
    return made_arrows(3, ((0, 1, 1), (1, 2, many)))


def end():
    return made_arrows(3, ((0, 2, 1), (1, 2, 2)))


class DoneTest(unittest.TestCase):
    def test_example(self):
        found = arrow_done(start(), DEED)
        self.assertIs(type(found), Arrows)
        self.assertEqual(found.n, 3)
        assert_same(self, found.bundles, ((0, 2, 1), (1, 2, 2)))
        self.assertEqual(arrow_done(deed=BACK, arrows=found), start())

    def test_rails_of_both_ways(self):
        for rail in ((1, 2, 1), (2, 1, 1)):
            assert_same(self, arrow_done(made_arrows(3, ((0, 1, 1), rail)), DEED).bundles, ((0, 2, 1), rail))

    def test_several_at_once(self):
        bag = made_arrows(3, ((0, 1, 10 ** 8), (0, 2, 4), (2, 1, 1)))
        for j, bundles in (
            (10 ** 8, ((0, 2, 10 ** 8 + 4), (2, 1, 1))), (7, ((0, 1, 10 ** 8 - 7), (0, 2, 11), (2, 1, 1))),
        ):
            assert_same(self, arrow_done(bag, (0, 1, 2, j)).bundles, bundles)
        assert_same(self, bag.bundles, ((0, 1, 10 ** 8), (0, 2, 4), (2, 1, 1)))

    def assert_faults(self, bag, code, *deeds):
        for deed in deeds:
            assert_refused(self, BadDeed, code, arrow_done, bag, deed)

    def test_deeds_of_a_wrong_form(self):
        self.assert_faults(
            start(), 0, None, 0, "", "0121", (), (0, 1, 2), DEED + (1,), (0, 1, 2, 0), (0, 1, 2, -1), (0, 1, 2, None),
            (None, 1, 2, 1), (0, "1", 2, 1), (0, 1, (2,), 1), ((0, 1, 2, 1),), (0, 0, 9, 0), (0, 1, "2", 5),
        )

    def test_places(self):
        self.assert_faults(
            start(), 1, (0, 1, 3, 1), (0, 3, 2, 1), (3, 1, 2, 1), (-1, 1, 2, 1), (0, -1, 2, 1), (0, 1, -1, 1),
            (0, 0, 2, 1), (0, 1, 1, 1), (0, 1, 0, 1), (1, 1, 1, 1), (10 ** 30, 1, 2, 10 ** 30), (1, 2, 1, 10 ** 30),
        )

    def test_too_few_arrows(self):
        self.assert_faults(
            start(), 2, (0, 1, 2, 2), (0, 1, 2, 10 ** 30), (0, 2, 1, 1), (1, 0, 2, 1), (2, 1, 0, 1), (1, 2, 0, 3),
        )

    def test_no_such_rail(self):
        self.assert_faults(start(), 3, (1, 2, 0, 1), (1, 2, 0, 2))
        # No arrow lies between 1 and 3, although both have some.
        self.assert_faults(made_arrows(4, ((0, 1, 1), (0, 3, 1), (1, 2, 1))), 3, (0, 1, 3, 1), (0, 3, 2, 1))


class OffersTest(unittest.TestCase):
    def test_example(self):
        assert_same(self, arrow_offers(start()), (DEED,))
        assert_same(self, arrow_offers(arrows=start(many=10 ** 8)), (DEED,))

    def test_nothing_to_offer(self):
        for bag in (
            made_arrows(1, ()), made_arrows(4, ()), made_arrows(2, ((0, 1, 5), (1, 0, 2))),
            made_arrows(4, ((2, 0, 1), (2, 1, 1), (2, 3, 9))),
        ):
            assert_same(self, arrow_offers(bag), ())

    def test_all_small_bags(self):
        for n, count in ((3, 2), (3, 3), (3, 4), (4, 2), (4, 3)):
            for arrows in all_arrow_bags(n, count):
                bag = arrow_bagged(n, arrows)
                plain = {slide + (1,): after for after, slide in arrow_slid(arrows)}
                self.assertEqual(arrow_offers(bag), tuple(sorted(plain)))
                for deed in plain:
                    self.assertEqual(arrow_done(bag, deed), arrow_bagged(n, plain[deed]))

    def test_offers_are_all_that_is_granted(self):
        bag = made_arrows(4, ((0, 1, 2), (1, 2, 1), (3, 2, 1), (3, 0, 1)))
        granted = []
        for deed in itertools.product(range(4), range(4), range(4), (1,)):
            try:
                arrow_done(bag, deed)
            except BadDeed:
                continue
            granted.append(deed)
        assert_same(self, arrow_offers(bag), tuple(granted))


class RunsTest(unittest.TestCase):
    def test_walked(self):
        self.assertEqual(arrow_walked(start(), ()), start())
        self.assertEqual(arrow_walked(start(), (DEED,)), end())
        self.assertEqual(arrow_walked(run=(DEED, BACK), arrows=start()), start())

    def test_refused_rows(self):
        for run, index in (
            ((BACK,), 0), ((DEED, DEED), 1), ((DEED, BACK, None, DEED), 2), ((None, None), 0), ((DEED, BACK, DEED, 0), 3),
        ):
            assert_refused(self, BadRow, index, arrow_walked, start(), run)
            self.assertIs(arrow_run_right(start(), run, start()), False)
            self.assertIs(arrow_run_right(start(), run, end()), False)

    def test_long_runs(self):
        run = (DEED, BACK) * 50000
        self.assertEqual(arrow_walked(start(), run), start())
        self.assertIs(arrow_run_right(start(), run, start()), True)
        assert_refused(self, TooMany, 100001, arrow_walked, start(), run + (DEED,))
        assert_refused(self, TooMany, 100001, arrow_walked, start(), (None,) * 100001)
        self.assertIs(arrow_run_right(start(), run + (DEED,), end()), False)
        self.assertIs(arrow_run_right(start(), run[:-1], end()), True)

    def test_run_right(self):
        for run, goal, due in (
            ((), start(), True), ((), end(), False), ((DEED,), end(), True), ((DEED,), start(), False),
            ((DEED, BACK), start(), True), ((DEED, None), end(), False), ((DEED,), made_arrows(4, end().bundles), False),
        ):
            self.assertIs(arrow_run_right(start(), run, goal), due)
        self.assertIs(arrow_run_right(goal=end(), run=(DEED,), arrows=start()), True)

    def test_run_right_of_any_values(self):
        deep = ()
        for _ in range(99):
            deep = (deep,)
        for run in (None, 0, "", "carry", DEED, deep, (deep,), (DEED, deep), ("",), (None,), ((),), (0, 1), (DEED[:3],)):
            self.assertIs(arrow_run_right(start(), run, start()), False)
            self.assertIs(arrow_run_right(start(), run, end()), False)

    def test_turned_and_slides(self):
        assert_same(self, arrow_turned((DEED,)), (BACK,))
        assert_same(self, arrow_turned(run=()), ())
        assert_same(self, arrow_slides(run=()), 0)
        run = ((0, 1, 3, 4), (7, 2, 5, 10 ** 30))
        assert_same(self, arrow_turned(run), ((7, 5, 2, 10 ** 30), (0, 3, 1, 4)))
        assert_same(self, arrow_slides(run), 10 ** 30 + 4)

    def test_random_runs_are_turned(self):
        rng = random.Random(25)
        for _ in range(100):
            n = rng.randint(2, 10)
            first = bag = random_arrows(rng, n=n, bundles=rng.randint(0, 12), counts=(1, 2, 5))
            run = []
            for _ in range(rng.randint(0, 12)):
                there = arrow_offers(bag)
                if there:
                    u, v, w, _ = rng.choice(there)
                    deed = (u, v, w, rng.randint(1, {bundle[:2]: bundle[2] for bundle in bag.bundles}[u, v]))
                    run.append(deed)
                    bag = arrow_done(bag, deed)
            run = tuple(run)
            self.assertEqual(arrow_walked(first, run), bag)
            self.assertIs(arrow_run_right(first, run, bag), True)
            self.assertEqual(arrow_walked(bag, arrow_turned(run)), first)
            self.assertEqual(arrow_turned(arrow_turned(run)), run)
            self.assertEqual(arrow_slides(arrow_turned(run)), arrow_slides(run))
            self.assertTrue(arrow_joined(first, bag))


if __name__ == "__main__":
    unittest.main()
