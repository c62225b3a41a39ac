"""Point [18]: fewest slides, balls, least prices, and the limits of searches."""

import random
import unittest

from carriedends.apart import apart
from carriedends.balls import balls
from carriedends.cheapest import cheapest
from carriedends.classsize import class_size
from carriedends.deeds import slides_of
from carriedends.errors import BadPlace, BadPrice, NotJoined, TooMany, Unlike
from carriedends.gathering import gather_run
from carriedends.judged import run_right
from carriedends.ledger import ledger
from carriedends.nearest import fewest, gather_count, nearest_run
from carriedends.normalrun import run_between
from carriedends.runs import walked
from carriedends.webs import Web, made_web
from tests.helping import assert_refused, assert_same, is_plain
from tests.plainly import classes, slid, webbed

SMALL = (
    (3, 2, 1, "all", 3), (3, 1, 2, "all", 3), (4, 1, 1, "all", 4), (3, 2, 2, "others", 3), (4, 1, 2, "others", 3),
    (3, 1, 3, "others", 4), (4, 1, 2, "own", 4),
)
PRICES = (3, 1, 7, 99)


def costs_from(wheel, rule, start, prices):
    """The least costs of slides from a bag of single threads to all of its class, by trying again and again."""
    costs = {start: 0}
    changed = {start}
    while changed:
        before, changed = changed, set()
        for threads in before:
            for after, slide in slid(wheel, rule, threads):
                cost = costs[threads] + prices[slide[3]]
                if cost < costs.get(after, 10 ** 9):
                    costs[after] = cost
                    changed.add(after)
    return costs


def circle():
    """The web of the first example and the one opposite to it."""
    return (
        made_web(3, 1, 2, "others", ((0, 1, 0, 0, 1), (0, 2, 0, 1, 1))),
        made_web(3, 1, 2, "others", ((0, 1, 0, 1, 1), (0, 2, 0, 0, 1))),
    )


class SearchTest(unittest.TestCase):
    def assert_nearest(self, one, other, due):
        assert_same(self, fewest(one, other), due)
        run = nearest_run(one, other)
        self.assertIs(type(run), tuple)
        self.assertTrue(is_plain(run, False))
        self.assertEqual(len(run), due)
        for deed in run:
            self.assertEqual((deed[0], deed[-1]), ("carry", 1))
        self.assertIs(run_right(one, run, other), True)

    def test_example(self):
        one, other = circle()
        assert_same(self, balls(one), (1, 2, 2, 1))
        assert_same(self, apart(one, other), 2)
        self.assert_nearest(one, other, 3)
        self.assert_nearest(other, one, 3)
        assert_same(self, cheapest(one, other, (2, 5)), 9)
        assert_same(self, cheapest(one, other, (5, 2)), 9)
        assert_same(self, cheapest(prices=(1, 99), one=one, other=other), 101)

    def test_nothing_stirs(self):
        for rule, bundles in (
            ("all", ()), ("own", ((0, 1, 0, 0, 10 ** 9 - 1), (1, 2, 0, 1, 1))), ("all", ((0, 1, 3, 0, 10 ** 9),)),
            ("others", ((0, 1, 0, 0, 5 * 10 ** 8), (1, 2, 0, 0, 5 * 10 ** 8))),
        ):
            web = made_web(3, 5, 2, rule, bundles)
            assert_same(self, balls(web), (1,))
            self.assert_nearest(web, web, 0)
            self.assertEqual(nearest_run(web, web), ())
            assert_same(self, cheapest(web, web, (1, 99)), 0)

    def test_small_classes(self):
        rng = random.Random(181)
        for n, wheel, coats, rule, count in SMALL:
            found = [together for together in classes(n, wheel, coats, rule, count) if len(together) > 1]
            for together in rng.sample(found, min(6, len(found))):
                with self.subTest(n=n, wheel=wheel, coats=coats, rule=rule, size=len(together)):
                    start = rng.choice(sorted(together))
                    web = webbed(n, wheel, coats, rule, start)
                    slides = costs_from(wheel, rule, start, (1,) * coats)
                    prices = costs_from(wheel, rule, start, PRICES)
                    numbers = list(slides.values())
                    assert_same(self, balls(web), tuple(numbers.count(i) for i in range(max(numbers) + 1)))
                    self.assertEqual(sum(balls(web)), class_size(web))
                    for goal in rng.sample(sorted(together), min(10, len(together))):
                        other = webbed(n, wheel, coats, rule, goal)
                        self.assert_nearest(web, other, slides[goal])
                        assert_same(self, cheapest(web, other, PRICES[:coats]), prices[goal])

    def test_what_holds(self):
        rng = random.Random(182)
        together = sorted(max(classes(3, 2, 2, "others", 3), key=len))
        for _ in range(12):
            one, other, third = [webbed(3, 2, 2, "others", rng.choice(together)) for _ in range(3)]
            found = fewest(one, other)
            self.assertEqual(found == 0, one == other)
            self.assertEqual(found, fewest(other, one))
            self.assertLessEqual(found, fewest(one, third) + fewest(third, other))
            self.assertGreaterEqual(found, apart(one, other))
            self.assertLessEqual(found, slides_of(run_between(one, other)))
            self.assertEqual(cheapest(one, other, (4, 4)), 4 * found)
            self.assertEqual(cheapest(one, other, (2, 5)), cheapest(other, one, (2, 5)))

    def test_more_slides_may_cost_less(self):
        # The least cost is not that of a nearest run.
        rng = random.Random(183)
        together = sorted(max(classes(4, 1, 2, "all", 3), key=len))
        dearer = 0
        for _ in range(40):
            one, other = [webbed(4, 1, 2, "all", rng.choice(together)) for _ in range(2)]
            cost = cheapest(one, other, (1, 99))
            nearest_cost = sum((1, 99)[deed[4]] for deed in nearest_run(one, other))
            self.assertLessEqual(cost, nearest_cost)
            dearer += cost < nearest_cost
        self.assertGreater(dearer, 0)

    def test_many_threads_of_a_small_class(self):
        # 60 threads on three places, and many more that are stuck.
        web = made_web(5, 1, 1, "all", ((0, 1, 0, 0, 58), (1, 2, 0, 0, 2), (3, 4, 0, 0, 10 ** 9 - 60)))
        other = made_web(5, 1, 1, "all", ((0, 1, 0, 0, 2), (1, 2, 0, 0, 58), (3, 4, 0, 0, 10 ** 9 - 60)))
        self.assertEqual(sum(balls(web)), class_size(web))
        # The 56 threads that are led from 0 to 2 need a rail, for which one more slide is done.
        self.assert_nearest(web, other, 57)

    def test_wheel_0(self):
        web = made_web(3, 0, 1, "all", ((0, 1, 5, 0, 1), (1, 2, 10 ** 12 - 1, 0, 1)))
        other = walked(web, (("carry", 0, 1, 5, 0, 2, 10 ** 12 - 1, 0, 1),))
        assert_same(self, balls(web), (1, 2))
        self.assert_nearest(web, other, 1)
        self.assert_nearest(other, web, 1)
        assert_same(self, cheapest(other, web, (99,)), 99)

    def test_webs_that_are_not_handy(self):
        web = Web(3, 0, 1, "all", ((0, 1, 10 ** 30, 0, 1), (1, 2, 10 ** 30, 0, 1)))
        assert_same(self, balls(web), (1, 2))
        other = Web(3, 0, 1, "all", ((0, 1, 10 ** 30, 0, 1), (0, 2, 2 * 10 ** 30, 0, 1)))
        self.assert_nearest(web, other, 1)


class LimitTest(unittest.TestCase):
    def assert_too_many(self, web, what):
        assert_refused(self, TooMany, what, balls, web)
        assert_refused(self, TooMany, what, fewest, web, web)
        assert_refused(self, TooMany, what, nearest_run, web, web)
        assert_refused(self, TooMany, what, cheapest, web, web, (1,) * web.coats)

    def test_classes_of_up_to_2000_webs(self):
        # On three places of the wheel 1 there are (e + 1)(e + 2) / 2 - 3 bags of e threads of one coat.
        for count, size in ((61, 1950), (62, 2013)):
            web = made_web(3, 1, 1, "all", ((0, 1, 0, 0, count - 1), (1, 2, 0, 0, 1)))
            self.assertEqual(class_size(web), size)
            if size <= 2000:
                self.assertEqual(sum(balls(web)), size)
                self.assertEqual(fewest(web, web), 0)
            else:
                self.assert_too_many(web, size)
        # 2000 is let: trees on four and on five places, 16 * 125.
        trees = tuple((place, place + 1, 0, 0, 1) for place in (0, 1, 2, 4, 5, 6, 7))
        web = made_web(9, 1, 1, "all", trees)
        self.assertEqual(class_size(web), 2000)
        self.assertEqual(sum(balls(web)), 2000)
        self.assert_too_many(made_web(12, 1, 1, "all", trees + ((9, 10, 0, 0, 1), (10, 11, 0, 0, 1))), 6000)

    def test_sizes_that_are_endless_or_not_computed(self):
        endless = made_web(3, 0, 1, "all", ((0, 1, 0, 0, 1), (0, 1, 4, 0, 1), (1, 2, 5, 0, 1)))
        self.assert_too_many(endless, 0)
        crowd = made_web(3, 1000, 1, "all", ((0, 1, 0, 0, 61), (0, 1, 1, 0, 1), (1, 2, 0, 0, 1)))
        assert_refused(self, TooMany, 3000, class_size, crowd)
        self.assert_too_many(crowd, 0)

    def test_errors_of_pairs_one_after_the_other(self):
        huge = made_web(3, 0, 2, "all", ((0, 1, 0, 0, 1), (0, 1, 4, 0, 1), (1, 2, 5, 0, 1)))
        calls = (fewest, nearest_run, lambda one, other: cheapest(one, other, (0,)))
        for call in calls:
            for name, other in (
                ("n", Web(4, 6, 1, "own", ())), ("wheel", Web(3, 6, 1, "own", ())), ("coats", Web(3, 0, 1, "own", ())),
                ("rule", Web(3, 0, 2, "own", ())),
            ):
                assert_refused(self, Unlike, name, call, huge, other)
                assert_refused(self, Unlike, name, call, other, huge)
        apart_from_it = made_web(3, 0, 2, "all", ((0, 1, 0, 0, 1), (0, 1, 5, 0, 1), (1, 2, 5, 0, 1)))
        for call in (fewest, nearest_run, lambda one, other: cheapest(one, other, (1, 99))):
            assert_refused(self, NotJoined, 0, call, huge, apart_from_it)
            assert_refused(self, TooMany, 0, call, huge, huge)

    def test_prices(self):
        one, other = circle()
        for prices, what in (
            ((), 0), ((1,), 1), ((0, 1, 1), 3), ((0, 0), 0), ((1, 0), 1), ((100, 1), 0), ((99, 100), 1), ((1, -5), 1),
            ((1, None), 1), (("1", 0), 0), (((1,), 1), 0),
        ):
            assert_refused(self, BadPrice, what, cheapest, one, other, prices)
            # Prices are asked before what is joined.
            assert_refused(self, BadPrice, what, cheapest, one, made_web(3, 1, 2, "others", ()), prices)
        self.assertEqual(cheapest(one, other, (1, 1)), 3)
        self.assertEqual(cheapest(one, other, (99, 99)), 297)
        assert_refused(self, NotJoined, 0, cheapest, one, made_web(3, 1, 2, "others", ()), (1, 1))


class GatherCountTest(unittest.TestCase):
    def test_example(self):
        web = made_web(4, 1, 1, "all", ((0, 1, 0, 0, 1), (1, 2, 0, 0, 1), (2, 3, 0, 0, 1)))
        assert_same(self, gather_count(web, (0, 1, 2, 3)), 2)
        assert_same(self, gather_count(lot=(0, 1, 2, 3), web=web), 2)

    def test_counts_and_lots(self):
        web = made_web(9, 0, 2, "all", (
            (1, 2, 5, 0, 7), (1, 4, 6, 1, 1), (2, 4, 7, 0, 10 ** 8), (2, 4, 8, 1, 3), (5, 6, 0, 0, 1), (5, 7, 0, 0, 9),
            (0, 8, 0, 0, 1),
        ))
        assert_same(self, gather_count(web, (1, 2, 4)), 10 ** 8 + 3)
        assert_same(self, gather_count(web, (5, 6, 7)), 0)
        for lot in ((0, 8), (3,), (1, 2), (2, 4), (1, 4, 2), (), None, 0, "all", (1, 2, 4, 5), ((1, 2, 4),), (9,)):
            assert_refused(self, BadPlace, 0, gather_count, web, lot)

    def test_other_rules(self):
        for rule in ("others", "own"):
            web = made_web(3, 1, 2, rule, ((0, 1, 0, 0, 1), (1, 2, 0, 1, 1), (1, 2, 0, 0, 1)))
            assert_refused(self, BadPlace, 0, gather_count, web, (0, 1, 2))

    def test_it_is_the_fewest_slides(self):
        rng = random.Random(184)
        for n, wheel, count in ((3, 2, 3), (4, 1, 4)):
            found = [together for together in classes(n, wheel, 1, "all", count) if len(together) > 2]
            for together in found:
                start = rng.choice(sorted(together))
                web = webbed(n, wheel, 1, "all", start)
                lot = [row[1] for row in ledger(web) if row[0] == "free"][0]
                costs = costs_from(wheel, "all", start, (1,))
                gathered = [
                    costs[threads] for threads in together if all(lot[0] in t[:2] for t in threads if t[0] in lot)
                ]
                assert_same(self, gather_count(web, lot), min(gathered))

    def test_gather_run_has_so_many_slides(self):
        rng = random.Random(185)
        for _ in range(60):
            bundles = [(0, 1, 0, 0, 1), (1, 2, 0, 0, 1), (2, 3, 1, 1, 2)]
            for _ in range(rng.randint(0, 9)):
                u, v = sorted(rng.sample(range(6), 2))
                bundles.append((u, v, rng.randrange(9), rng.randrange(2), rng.choice((1, 2, 10 ** 7))))
            web = made_web(6, 9, 2, "all", tuple(bundles))
            for row in ledger(web):
                if row[0] == "free":
                    self.assertEqual(slides_of(gather_run(web, row[1])), gather_count(web, row[1]))


if __name__ == "__main__":
    unittest.main()
