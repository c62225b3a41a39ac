"""Point [10]: lots gathered."""

import random
import unittest

from carriedends.deeds import slides_of
from carriedends.errors import BadPlace, Wide
from carriedends.gathering import gather_run
from carriedends.judged import run_right
from carriedends.ledger import joined, ledger
from carriedends.lots import lots
from carriedends.runs import walked
from carriedends.webs import Web, made_web
from tests.helping import assert_refused, is_plain
from tests.plainly import all_bags, single, slid, webbed


def free_lots(web):
    return [row[1] for row in ledger(web) if row[0] == "free"]


class GatherTest(unittest.TestCase):
    def assert_gathers(self, web, lot):
        """The run must keep all that is said of it; it is returned."""
        before = Web(web.n, web.wheel, web.coats, web.rule, web.bundles)
        run = gather_run(web, lot)
        self.assertEqual(web, before)
        self.assertIs(type(run), tuple)
        self.assertTrue(is_plain(run, False))
        self.assertLessEqual(len(run), 2000)
        for deed in run:
            self.assertEqual(deed[0], "carry")
            self.assertLessEqual({deed[1], deed[2], deed[5]}, set(lot))
        after = walked(web, run)
        self.assertIs(run_right(web, run, after), True)
        self.assertTrue(joined(web, after))
        for bundle in after.bundles:
            if bundle[0] in lot:
                self.assertIn(lot[0], bundle[:2])
        self.assertEqual(
            [bundle for bundle in after.bundles if bundle[0] not in lot],
            [bundle for bundle in web.bundles if bundle[0] not in lot],
        )
        if web.rule == "all":
            away = [bundle[4] for bundle in web.bundles if bundle[0] in lot and lot[0] not in bundle[:2]]
            self.assertEqual(slides_of(run), sum(away))
        return run

    def test_example_of_gather_count(self):
        web = made_web(4, 1, 1, "all", ((0, 1, 0, 0, 1), (1, 2, 0, 0, 1), (2, 3, 0, 0, 1)))
        self.assertEqual(slides_of(self.assert_gathers(web, (0, 1, 2, 3))), 2)

    def test_gathered_already(self):
        web = made_web(4, 5, 2, "all", ((0, 1, 0, 0, 7), (0, 2, 4, 1, 1), (0, 3, 4, 1, 1)))
        self.assertEqual(gather_run(web, (0, 1, 2, 3)), ())
        self.assertEqual(gather_run(lot=(0, 1, 2, 3), web=web), ())

    def test_many_threads_at_once(self):
        bundles = ((0, 1, 2, 0, 1), (1, 2, 5, 0, 10 ** 9 - 2), (0, 2, 1, 0, 1))
        for wheel in (0, 7):
            web = made_web(3, wheel, 1, "all", bundles)
            run = self.assert_gathers(web, (0, 1, 2))
            self.assertEqual(slides_of(run), 10 ** 9 - 2)
            self.assertLessEqual(len(run), 2)

    def test_long_paths_under_all(self):
        for places in (tuple(range(20)), tuple(range(19, -1, -1)), tuple((7 * place + 3) % 20 for place in range(20))):
            bundles = tuple(
                (min(u, v), max(u, v), 1, 0, 10 ** 6 + u) for u, v in zip(places, places[1:])
            )
            self.assert_gathers(made_web(20, 6, 1, "all", bundles), tuple(range(20)))
            self.assert_gathers(made_web(20, 0, 1, "all", bundles), tuple(range(20)))

    def test_others_needs_an_unlike_pair_from_far_away(self):
        # All threads but the last one have the coat 0.
        for last in (0, 5, 18):
            bundles = tuple((place, place + 1, 3, int(place == last), 2 + place) for place in range(19))
            self.assert_gathers(made_web(20, 7, 2, "others", bundles), tuple(range(20)))
        bundles = tuple((place, place + 1, 3, 0, 5) for place in range(1, 19)) + ((0, 1, 3, 0, 5), (18, 19, 1, 1, 1))
        self.assert_gathers(made_web(20, 0, 2, "others", bundles), tuple(range(20)))

    def test_others_where_a_third_thread_leads_onward(self):
        # The pair is at 1, its threads lead to 2 and 3, the way to 0 leads by 5; lengths that look like places.
        for lengths in ((0, 5, 0), (5, 0, 0), (5, 5, 5), (0, 1, 2)):
            for coats in ((0, 0, 1, 0), (0, 1, 0, 0), (1, 0, 1, 1)):
                bundles = tuple(
                    (*ends, length, coat, 2)
                    for ends, length, coat in zip(((0, 5), (1, 2), (1, 3), (1, 5)), (4, *lengths), coats)
                )
                web = made_web(6, 7, 2, "others", bundles)
                self.assert_gathers(web, (0, 1, 2, 3, 5))

    def test_others_where_an_exchange_is_needed(self):
        # The thread 1 2 has the coat of all threads 0 1 and 0 2; that of the coat 1 leads to 3.
        bundles = ((0, 1, 1, 0, 2), (0, 2, 2, 0, 3), (0, 3, 3, 1, 1), (1, 2, 4, 0, 5))
        run = self.assert_gathers(made_web(4, 9, 2, "others", bundles), (0, 1, 2, 3))
        self.assertGreater(len(run), 1)

    def test_lots_beside_the_first_one(self):
        bundles = (
            (0, 9, 1, 0, 2), (1, 4, 2, 1, 1), (2, 5, 2, 0, 1), (4, 6, 3, 0, 1), (4, 8, 3, 0, 1), (5, 7, 0, 1, 4),
            (6, 8, 0, 1, 1), (7, 10, 0, 1, 4),
        )
        for rule in ("all", "others"):
            web = made_web(12, 9, 2, rule, bundles)
            self.assertEqual(free_lots(web), [(1, 4, 6, 8), (2, 5, 7, 10)])
            for lot in free_lots(web):
                self.assert_gathers(web, lot)

    def test_all_small_webs(self):
        for n, wheel, coats, many in ((3, 3, 1, 3), (4, 1, 2, 4), (3, 2, 2, 4), (4, 2, 2, 3), (4, 1, 3, 3)):
            for rule in ("all", "others"):
                for threads in all_bags(n, wheel, coats, many):
                    web = webbed(n, wheel, coats, rule, threads)
                    for lot in free_lots(web):
                        self.assert_gathers(web, lot)

    def test_any_webs(self):
        chance = random.Random(10)
        for _ in range(600):
            n, coats = chance.randint(3, 20), chance.randint(1, 4)
            wheel, rule = chance.choice((0, 1, 2, 12, 10 ** 6)), chance.choice(("all", "others", "others"))
            places = chance.sample(range(n), n)
            back = chance.choice((1, 2, n))
            bundles = []
            for index in range(1, chance.randint(1, n)):
                ends = (places[index], places[chance.randrange(max(0, index - back), index)])
                bundles.append((min(ends), max(ends)))
            while len(bundles) < 30 and chance.random() < 0.8:
                bundles.append(tuple(sorted(chance.sample(range(n), 2))))
            seldom = chance.random() < 0.5
            web = made_web(n, wheel, coats, rule, tuple(
                (
                    *ends, chance.randint(-10 ** 12 + 1, 10 ** 12 - 1) if wheel == 0 else chance.randrange(wheel),
                    0 if seldom and chance.random() < 0.9 else chance.randrange(coats), chance.choice((1, 2, 10 ** 7)),
                ) for ends in bundles
            ))
            for lot in free_lots(web):
                self.assert_gathers(web, lot)

    def test_no_fewer_slides_under_all(self):
        """Found by trying: the fewest slides to any web in which the lot is gathered."""
        for n, wheel, many in ((4, 1, 3), (4, 1, 4), (3, 2, 3)):
            for threads in all_bags(n, wheel, 1, many):
                web = webbed(n, wheel, 1, "all", threads)
                if free_lots(web) == [tuple(range(n))]:
                    steps, layer, seen = 0, {threads}, {threads}
                    while not any(all(thread[0] == 0 for thread in bag) for bag in layer):
                        layer = {after for bag in layer for after, _ in slid(wheel, "all", bag)} - seen
                        seen |= layer
                        steps += 1
                    self.assertEqual(slides_of(gather_run(web, tuple(range(n)))), steps)
                    self.assertEqual(single(web), threads)


class RefusedTest(unittest.TestCase):
    BUNDLES = ((0, 1, 0, 0, 1), (1, 2, 0, 0, 1), (3, 4, 0, 0, 1), (3, 4, 0, 1, 1), (6, 7, 0, 0, 1), (7, 8, 0, 1, 1))

    def test_lots_that_are_not_free(self):
        web = made_web(9, 5, 2, "all", self.BUNDLES)
        self.assertEqual(lots(web), ((0, 1, 2), (3, 4), (5,), (6, 7, 8)))
        for lot in ((3, 4), (5,)):
            assert_refused(self, BadPlace, 0, gather_run, web, lot)
        gather_run(web, (0, 1, 2))
        gather_run(web, (6, 7, 8))
        web = made_web(9, 5, 2, "others", self.BUNDLES)
        for lot in ((0, 1, 2), (3, 4), (5,)):
            assert_refused(self, BadPlace, 0, gather_run, web, lot)
        gather_run(web, (6, 7, 8))

    def test_never_under_own(self):
        web = made_web(9, 5, 2, "own", self.BUNDLES)
        for lot in ((0, 1, 2), (6, 7, 8), (3, 4), (5,), None):
            assert_refused(self, BadPlace, 0, gather_run, web, lot)

    def test_any_values(self):
        for rule in ("all", "others"):
            web = made_web(9, 5, 2, rule, self.BUNDLES)
            for lot in (
                None, 0, "", "lot", (), (0,), (0, 1), (0, 1, 2, 3), (2, 1, 0), (1, 2, 0), (0, 1, "2"), (0, 1, None),
                ((0, 1, 2),), (0, 1, 2, 2), (-1, 0, 1), 10 ** 30, ((((),),),), (6, 7), (6, 7, 8, 9),
            ):
                assert_refused(self, BadPlace, 0, gather_run, web, lot)

    def test_not_handy(self):
        long = Web(3, 0, 1, "all", ((0, 1, 10 ** 12, 0, 1), (1, 2, 0, 0, 1)))
        wide = Web(3, 99, 1, "all", tuple((0, 1, length, 0, 1) for length in range(30)) + ((1, 2, 0, 0, 1),))
        full = Web(3, 1, 1, "all", ((0, 1, 0, 0, 10 ** 9), (1, 2, 0, 0, 1)))
        for web in (long, wide, full):
            for lot in ((0, 1, 2), (0,), None):
                assert_refused(self, Wide, 0, gather_run, web, lot)
        own = Web(3, 1, 1, "own", full.bundles)
        assert_refused(self, Wide, 0, gather_run, own, (0, 1, 2))

    def test_the_bounds_of_handy(self):
        long = made_web(3, 0, 1, "all", ((0, 1, 1 - 10 ** 12, 0, 1), (1, 2, 10 ** 12 - 1, 0, 10 ** 9 - 1)))
        self.assertEqual(slides_of(gather_run(long, (0, 1, 2))), 10 ** 9 - 1)
        wide = made_web(3, 99, 1, "all", tuple((1, 2, length, 0, 1) for length in range(29)) + ((0, 1, 0, 0, 1),))
        self.assertEqual(slides_of(gather_run(wide, (0, 1, 2))), 29)


if __name__ == "__main__":
    unittest.main()
