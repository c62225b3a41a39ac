"""Point [4]: measures and heights."""

import itertools
import unittest

from carriedends.errors import BadCoats, BadPlace
from carriedends.heights import heights
from carriedends.lots import coat_lots, lots
from carriedends.webs import Web, made_web
from tests.helping import assert_refused, assert_same


def agreeing(wheel, lot, threads):
    """The measure and heights for a wheel >= 1, found by trying all."""
    for m in range(wheel, 0, -1):
        if wheel % m:
            continue
        found = []
        for tried in itertools.product(range(m), repeat=len(lot) - 1):
            height = dict(zip(lot, (0,) + tried))
            if all((height[v] - height[u] - length) % m == 0 for u, v, length in threads):
                found.append((0,) + tried)
        if found:
            assert len(found) == 1
            return (m, found[0])


class HeightsTest(unittest.TestCase):
    def test_example(self):
        web = made_web(3, 0, 1, "all", ((0, 1, 0, 0, 1), (0, 1, 4, 0, 1), (1, 2, 5, 0, 1)))
        assert_same(self, heights(web, (0, 1, 2)), (4, (0, 0, 1)))

    def test_examples_of_the_ledgers(self):
        for length, due in ((1, (1, (0, 0, 0))), (2, (1, (0, 0, 0))), (0, (5, (0, 0, 0)))):
            web = made_web(3, 5, 1, "all", ((0, 1, 0, 0, 1), (1, 2, 0, 0, 1), (0, 2, length, 0, 1)))
            assert_same(self, heights(web, (0, 1, 2)), due)

    def test_examples_of_the_parting_papers(self):
        for length, due in ((1, 1), (2, 2), (3, 1)):
            web = made_web(3, 8, 1, "all", ((0, 1, 0, 0, 1), (1, 2, 0, 0, 1), (0, 2, length, 0, 1)))
            assert_same(self, heights(web, (0, 1, 2)), (due, (0, 0, 0)))

    def test_lots_of_one_place(self):
        for wheel in (0, 1, 5, 10 ** 6):
            web = made_web(4, wheel, 1, "all", ((0, 2, 0, 0, 3),))
            assert_same(self, heights(web, (1,)), (wheel, (0,)))
            assert_same(self, heights(web, (3,)), (wheel, (0,)))

    def test_lots_without_rings(self):
        bundles = ((0, 3, 4, 0, 1), (1, 3, 3, 1, 9), (1, 2, 4, 0, 1))
        assert_same(self, heights(made_web(4, 5, 2, "all", bundles), (0, 1, 2, 3)), (5, (0, 1, 0, 4)))
        assert_same(self, heights(made_web(4, 0, 2, "all", bundles), (0, 1, 2, 3)), (0, (0, 1, 5, 4)))

    def test_like_threads_make_no_ring_but_0(self):
        self.assertEqual(heights(made_web(2, 0, 1, "all", ((0, 1, 3, 0, 2),)), (0, 1)), (0, (0, 3)))
        self.assertEqual(heights(made_web(2, 6, 1, "all", ((0, 1, 3, 0, 2),)), (0, 1)), (6, (0, 3)))
        self.assertEqual(heights(made_web(2, 6, 2, "all", ((0, 1, 3, 0, 2), (0, 1, 3, 1, 1))), (0, 1)), (6, (0, 3)))

    def test_wheel_0(self):
        for lengths, due in (
            ((-3,), (0, (0, -3))), ((-7, -3), (4, (0, 1))), ((3, 9, 18), (3, (0, 0))), ((5, 9, 15), (2, (0, 1))),
            ((-1, 0), (1, (0, 0))),
        ):
            web = made_web(2, 0, 1, "all", tuple((0, 1, length, 0, 1) for length in lengths))
            assert_same(self, heights(web, (0, 1)), due)

    def test_wheel_0_and_a_measure_above_each_wheel(self):
        web = made_web(3, 0, 1, "all", ((0, 1, 10 ** 11, 0, 1), (0, 1, -10 ** 11, 0, 1), (1, 2, -1, 0, 1)))
        assert_same(self, heights(web, (0, 1, 2)), (2 * 10 ** 11, (0, 10 ** 11, 10 ** 11 - 1)))
        web = made_web(2, 0, 1, "all", ((0, 1, 0, 0, 1), (0, 1, 10 ** 6 + 1, 0, 1)))
        assert_same(self, heights(web, (0, 1)), (10 ** 6 + 1, (0, 0)))

    def test_wheel_1(self):
        web = made_web(3, 1, 1, "all", ((0, 1, 0, 0, 1), (1, 2, 0, 0, 1), (0, 2, 0, 0, 1)))
        assert_same(self, heights(web, (0, 1, 2)), (1, (0, 0, 0)))

    def test_the_wheel_counts_for_the_measure(self):
        web = made_web(2, 6, 1, "all", ((0, 1, 1, 0, 1), (0, 1, 5, 0, 1)))
        assert_same(self, heights(web, (0, 1)), (2, (0, 1)))

    def test_each_ring_counts(self):
        web = made_web(3, 12, 1, "all", ((0, 1, 0, 0, 1), (0, 1, 4, 0, 1), (1, 2, 0, 0, 1), (1, 2, 6, 0, 1)))
        assert_same(self, heights(web, (0, 1, 2)), (2, (0, 0, 0)))

    def test_only_the_threads_of_the_lot_count(self):
        web = made_web(6, 12, 1, "all", (
            (0, 2, 5, 0, 1), (0, 2, 9, 0, 1), (1, 4, 7, 0, 1), (1, 4, 1, 0, 1), (3, 5, 11, 0, 1),
        ))
        assert_same(self, heights(web, (0, 2)), (4, (0, 1)))
        assert_same(self, heights(web, (1, 4)), (6, (0, 1)))
        assert_same(self, heights(web, (3, 5)), (12, (0, 11)))

    def test_against_all_heights_tried(self):
        lengths = (0, 1, 2, 5)
        for one, two, three, four in itertools.product(lengths, repeat=4):
            threads = ((0, 1, one), (1, 2, two), (0, 2, three), (1, 2, four))
            for wheel in (6, 8):
                web = made_web(3, wheel, 1, "all", tuple(thread + (0, 1) for thread in threads))
                self.assertEqual(heights(web, (0, 1, 2)), agreeing(wheel, (0, 1, 2), threads))

    def test_many_places(self):
        bundles = tuple((place, place + 1, place, 0, 1) for place in range(19))
        due = tuple(place * (place - 1) // 2 for place in range(20))
        assert_same(self, heights(made_web(20, 0, 1, "all", bundles), tuple(range(20))), (0, due))
        ringed = bundles + ((0, 19, due[19] + 10, 0, 1),)
        rests = tuple(height % 10 for height in due)
        assert_same(self, heights(made_web(20, 0, 1, "all", ringed), tuple(range(20))), (10, rests))

    def test_webs_that_are_not_handy(self):
        web = Web(2, 0, 1, "all", tuple((0, 1, 10 ** 50 + 6 * step, 0, 10 ** 10) for step in range(40)))
        assert_same(self, heights(web, (0, 1)), (6, (0, 10 ** 50 % 6)))

    def test_rules_do_not_count(self):
        bundles = ((0, 1, 0, 0, 1), (0, 1, 2, 1, 1), (1, 2, 1, 1, 1))
        for rule in ("all", "others", "own"):
            self.assertEqual(heights(made_web(3, 6, 2, rule, bundles), (0, 1, 2)), (2, (0, 0, 1)))


class CoatHeightsTest(unittest.TestCase):
    def setUp(self):
        self.web = made_web(4, 12, 3, "own", (
            (0, 1, 1, 0, 1), (0, 1, 5, 1, 1), (0, 2, 2, 1, 1), (1, 2, 1, 1, 1), (2, 3, 7, 0, 2), (0, 1, 9, 0, 1),
        ))

    def test_threads_of_one_coat_alone(self):
        assert_same(self, heights(self.web, (0, 1), coat=0), (4, (0, 1)))
        assert_same(self, heights(self.web, (2, 3), coat=0), (12, (0, 7)))
        assert_same(self, heights(self.web, (0, 1, 2), coat=1), (4, (0, 1, 2)))
        assert_same(self, heights(self.web, (3,), coat=1), (12, (0,)))
        assert_same(self, heights(self.web, (1,), coat=2), (12, (0,)))

    def test_all_threads(self):
        assert_same(self, heights(self.web, (0, 1, 2, 3)), (4, (0, 1, 2, 1)))
        assert_same(self, heights(self.web, (0, 1, 2, 3), coat=-1), (4, (0, 1, 2, 1)))

    def test_coat_out_of_its_bounds(self):
        for coat in (-2, 3, 4, -10 ** 30):
            assert_refused(self, BadCoats, coat, heights, self.web, (0, 1, 2, 3), coat=coat)

    def test_coat_is_checked_before_the_lot(self):
        for coat in (-2, 3):
            assert_refused(self, BadCoats, coat, heights, self.web, (0, 9), coat=coat)
            assert_refused(self, BadCoats, coat, heights, self.web, None, coat=coat)

    def test_the_lot_is_one_of_those_that_the_coat_makes(self):
        self.assertIn((0, 1), coat_lots(self.web, 0))
        self.assertNotIn((0, 1), lots(self.web))
        assert_refused(self, BadPlace, 0, heights, self.web, (0, 1))
        assert_refused(self, BadPlace, 0, heights, self.web, (0, 1), coat=1)
        assert_refused(self, BadPlace, 0, heights, self.web, (0, 1, 2, 3), coat=0)
        assert_refused(self, BadPlace, 0, heights, self.web, (0, 1, 2, 3), coat=2)

    def test_coat_is_passed_by_name_alone(self):
        with self.assertRaises(TypeError):
            heights(self.web, (0, 1), 0)
        self.assertEqual(heights(coat=0, lot=(0, 1), web=self.web), (4, (0, 1)))


class BadLotTest(unittest.TestCase):
    def test_no_lot(self):
        web = made_web(4, 5, 1, "all", ((0, 1, 0, 0, 1), (1, 2, 0, 0, 1)))
        deep = (0, 1, 2)
        for _ in range(98):
            deep = (deep,)
        for lot in (
            (), (0,), (0, 1), (1, 2), (0, 1, 2, 3), (2, 1, 0), (0, 2, 1), (0, 0, 1, 2), (0, 1, 2, 2), (4,), (-1,),
            ((0, 1, 2),), deep, None, 0, 3, 10 ** 30, "", "012", "(3,)", (None,), ("3",), ((3,),), (0, 1, None),
        ):
            with self.subTest(lot=lot):
                assert_refused(self, BadPlace, 0, heights, web, lot)
        self.assertEqual(heights(web, (3,)), (5, (0,)))
        self.assertEqual(heights(web, (0, 1, 2)), (5, (0, 0, 0)))


if __name__ == "__main__":
    unittest.main()
