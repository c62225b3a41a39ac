"""Point [4]: lots and coat lots."""

import itertools
import unittest

from carriedends.errors import BadCoats
from carriedends.lots import coat_lots, lots
from carriedends.webs import Web, made_web
from tests.helping import assert_refused, assert_same


def walked_lots(n, pairs):
    """The lots, found by walking along the pairs from each place."""
    found = []
    for start in range(n):
        reached = {start}
        for _ in range(n):
            for u, v in pairs:
                if u in reached or v in reached:
                    reached |= {u, v}
        if min(reached) == start:
            found.append(tuple(sorted(reached)))
    return tuple(found)


def web_of_pairs(n, pairs, coats=1):
    return made_web(n, 5, coats, "all", tuple((u, v, 0, index % coats, 1) for index, (u, v) in enumerate(pairs)))


class LotsTest(unittest.TestCase):
    def test_without_threads_each_place_is_a_lot(self):
        assert_same(self, lots(made_web(1, 0, 1, "all", ())), ((0,),))
        assert_same(self, lots(made_web(20, 0, 1, "all", ())), tuple((place,) for place in range(20)))

    def test_lots_stand_by_their_least_places(self):
        web = web_of_pairs(6, ((1, 5), (0, 4), (2, 5)))
        assert_same(self, lots(web), ((0, 4), (1, 2, 5), (3,)))

    def test_all_places_in_one_lot(self):
        web = web_of_pairs(20, tuple((place, place + 1) for place in range(19)))
        assert_same(self, lots(web), (tuple(range(20)),))
        web = web_of_pairs(20, tuple((place, 19) for place in range(19)))
        assert_same(self, lots(web), (tuple(range(20)),))

    def test_two_lots_that_a_late_thread_hangs_together(self):
        web = web_of_pairs(6, ((0, 1), (2, 3), (4, 5), (3, 5)))
        assert_same(self, lots(web), ((0, 1), (2, 3, 4, 5)))

    def test_all_bags_of_pairs_on_five_places(self):
        pairs = tuple(itertools.combinations(range(5), 2))
        for chosen in itertools.product((False, True), repeat=len(pairs)):
            taken = tuple(pair for pair, take in zip(pairs, chosen) if take)
            self.assertEqual(lots(web_of_pairs(5, taken)), walked_lots(5, taken))

    def test_threads_of_all_coats_count_under_each_rule(self):
        for rule in ("all", "others", "own"):
            web = made_web(4, 0, 3, rule, ((0, 2, -4, 0, 1), (2, 3, 9, 2, 5)))
            assert_same(self, lots(web), ((0, 2, 3), (1,)))

    def test_webs_that_are_not_handy(self):
        bundles = tuple((0, 2, length, 0, 10 ** 10) for length in range(40))
        self.assertEqual(lots(Web(3, 50, 1, "all", bundles)), ((0, 2), (1,)))

    def test_by_name(self):
        self.assertEqual(lots(web=made_web(1, 0, 1, "all", ())), ((0,),))


class CoatLotsTest(unittest.TestCase):
    def test_threads_of_that_coat_alone(self):
        for rule in ("all", "others", "own"):
            web = made_web(5, 7, 3, rule, ((0, 1, 0, 0, 1), (1, 2, 0, 1, 1), (2, 4, 3, 0, 9), (0, 2, 1, 1, 1)))
            assert_same(self, coat_lots(web, 0), ((0, 1), (2, 4), (3,)))
            assert_same(self, coat_lots(web, 1), ((0, 1, 2), (3,), (4,)))
            assert_same(self, coat_lots(web, 2), ((0,), (1,), (2,), (3,), (4,)))
            assert_same(self, lots(web), ((0, 1, 2, 4), (3,)))

    def test_greatest_coat(self):
        web = made_web(3, 7, 4, "own", ((0, 2, 0, 3, 1),))
        assert_same(self, coat_lots(web, 3), ((0, 2), (1,)))

    def test_refused(self):
        web = made_web(2, 7, 2, "all", ((0, 1, 0, 0, 1),))
        for coat in (-1, 2, 4, 10 ** 30):
            assert_refused(self, BadCoats, coat, coat_lots, web, coat)

    def test_by_name(self):
        web = made_web(2, 7, 2, "all", ((0, 1, 0, 1, 1),))
        self.assertEqual(coat_lots(c=1, web=web), ((0, 1),))


if __name__ == "__main__":
    unittest.main()
