"""Point [5]: ledgers, alike webs, joined webs."""

import random
import unittest

from carriedends.errors import Unlike
from carriedends.ledger import check_alike, joined, ledger, views
from carriedends.webs import Web, made_web, renamed
from tests.helping import assert_refused, assert_same
from tests.plainly import classes, webbed


def of_lengths(wheel, rule, *lengths):
    """Threads 01 and 12 of length 0, and threads 02 of the given lengths, all of the coat 0."""
    bundles = ((0, 1, 0, 0, 1), (1, 2, 0, 0, 1)) + tuple((0, 2, length, 0, 1) for length in lengths)
    return made_web(3, wheel, 1, rule, bundles)


class LedgerTest(unittest.TestCase):
    def test_example_of_one_spare(self):
        one = of_lengths(5, "all", 1)
        other = of_lengths(5, "all", 2)
        assert_same(self, ledger(one), (("free", (0, 1, 2), (3,), 1, 1, 1, (0, 0, 0)),), nones=True)
        assert_same(self, ledger(other), (("free", (0, 1, 2), (3,), 1, 1, 2, (0, 0, 0)),), nones=True)
        self.assertIs(joined(one, other), False)

    def test_example_of_two_spares(self):
        more = [
            made_web(3, 5, 1, "all", of_lengths(5, "all", length).bundles + ((0, 1, 0, 0, 1),)) for length in (1, 2)
        ]
        for web in more:
            assert_same(self, ledger(web), (("free", (0, 1, 2), (4,), 2, 1, None, (0, 0, 0)),), nones=True)
        self.assertIs(joined(*more), True)

    def test_example_of_two_places(self):
        one = made_web(2, 3, 1, "all", ((0, 1, 0, 0, 1), (0, 1, 1, 0, 1)))
        other = made_web(2, 3, 1, "all", ((0, 1, 0, 0, 1), (0, 1, 2, 0, 1)))
        assert_same(self, ledger(one), (("stuck", (0, 1), ((0, 1, 0, 0, 1), (0, 1, 1, 0, 1))),))
        assert_same(self, ledger(other), (("stuck", (0, 1), ((0, 1, 0, 0, 1), (0, 1, 2, 0, 1))),))
        self.assertIs(joined(one, other), False)

    def test_examples_of_other_points(self):
        # [4]
        web = made_web(3, 0, 1, "all", ((0, 1, 0, 0, 1), (0, 1, 4, 0, 1), (1, 2, 5, 0, 1)))
        assert_same(self, ledger(web), (("free", (0, 1, 2), (3,), 1, 4, 4, (0, 0, 1)),), nones=True)
        # [12] (a) and (c)
        web = made_web(4, 1, 1, "all", ((0, 1, 0, 0, 1), (1, 2, 0, 0, 1), (2, 3, 0, 0, 1)))
        assert_same(self, ledger(web), (("free", (0, 1, 2, 3), (3,), 0, 1, None, (0, 0, 0, 0)),), nones=True)
        web = made_web(3, 0, 2, "others", ((0, 1, 5, 1, 1), (1, 2, -2, 0, 1)))
        assert_same(self, ledger(web), (("free", (0, 1, 2), (1, 1), 0, 0, None, (0, 5, 3)),), nones=True)
        # [14] (b)
        rings = [ledger(of_lengths(8, "all", length))[0][4:6] for length in (1, 2, 3)]
        self.assertEqual(rings, [(1, 1), (2, 2), (1, 3)])

    def test_places_alone(self):
        assert_same(self, ledger(made_web(1, 0, 1, "all", ())), (("one", 0),))
        assert_same(self, ledger(made_web(3, 7, 2, "others", ())), (("one", 0), ("one", 1), ("one", 2)))
        assert_same(self, ledger(made_web(2, 7, 2, "own", ())), ((("one", 0), ("one", 1)), (("one", 0), ("one", 1))))

    def test_rows_stand_by_least_places(self):
        bundles = ((0, 5, 1, 0, 2), (1, 4, 2, 1, 1), (4, 6, 3, 0, 1), (2, 3, 4, 1, 3))
        due = (
            ("stuck", (0, 5), ((0, 5, 1, 0, 2),)),
            ("free", (1, 4, 6), (1, 1), 0, 9, None, (0, 2, 5)),
            ("stuck", (2, 3), ((2, 3, 4, 1, 3),)),
            ("one", 7),
        )
        for rule in ("all", "others"):
            assert_same(self, ledger(made_web(8, 9, 2, rule, bundles)), due, nones=True)

    def test_one_coat_sticks_under_others_alone(self):
        bundles = ((0, 1, 0, 2, 1), (0, 1, 3, 2, 4), (1, 3, 1, 2, 1))
        free = ("free", (0, 1, 3), (0, 0, 6), 4, 3, None, (0, 0, 1))
        assert_same(
            self, ledger(made_web(4, 6, 3, "others", bundles)), (("stuck", (0, 1, 3), bundles), ("one", 2))
        )
        assert_same(self, ledger(made_web(4, 6, 3, "all", bundles)), (free, ("one", 2)), nones=True)
        ones = (("one", 0), ("one", 1), ("one", 2), ("one", 3))
        assert_same(self, ledger(made_web(4, 6, 3, "own", bundles)), (ones, ones, (free, ("one", 2))), nones=True)

    def test_other_coats_elsewhere_do_not_free_a_lot(self):
        bundles = ((0, 1, 0, 0, 1), (1, 2, 0, 0, 1), (3, 4, 0, 1, 1))
        assert_same(self, ledger(made_web(5, 1, 2, "others", bundles)), (
            ("stuck", (0, 1, 2), bundles[:2]), ("stuck", (3, 4), bundles[2:]),
        ))

    def test_two_places_of_two_coats_are_stuck(self):
        bundles = ((0, 1, 0, 0, 1), (0, 1, 0, 1, 1))
        for rule in ("all", "others"):
            assert_same(self, ledger(made_web(2, 4, 2, rule, bundles)), (("stuck", (0, 1), bundles),))

    def test_own_is_told_coat_by_coat(self):
        bundles = ((0, 1, 1, 0, 1), (0, 1, 2, 1, 1), (0, 2, 4, 1, 5), (1, 2, 2, 0, 1), (1, 2, 3, 1, 1))
        due = (
            (("free", (0, 1, 2), (2, 0), 0, 12, None, (0, 1, 3)),),
            (("free", (0, 1, 2), (0, 7), 5, 1, None, (0, 0, 0)),),
        )
        assert_same(self, ledger(made_web(3, 12, 2, "own", bundles)), due, nones=True)
        # Under "own" each coat has its own lots, heights and stuck lots.
        bundles = ((0, 1, 5, 1, 1), (0, 2, 0, 0, 2), (0, 2, 3, 1, 1), (1, 2, 0, 0, 1))
        due = (
            (("free", (0, 1, 2), (3, 0, 0), 1, 12, 0, (0, 0, 0)), ("one", 3)),
            (("free", (0, 1, 2), (0, 2, 0), 0, 12, None, (0, 5, 3)), ("one", 3)),
            (("one", 0), ("one", 1), ("one", 2), ("one", 3)),
        )
        assert_same(self, ledger(made_web(4, 12, 3, "own", bundles)), due, nones=True)
        bundles = ((0, 1, 5, 1, 1), (1, 2, 0, 0, 3))
        due = (
            (("one", 0), ("stuck", (1, 2), ((1, 2, 0, 0, 3),))), (("stuck", (0, 1), ((0, 1, 5, 1, 1),)), ("one", 2)),
        )
        assert_same(self, ledger(made_web(3, 12, 2, "own", bundles)), due)

    def test_own_of_one_coat_is_a_tuple_of_one_ledger(self):
        self.assertEqual(ledger(of_lengths(5, "own", 1)), (ledger(of_lengths(5, "all", 1)),))


class RingTest(unittest.TestCase):
    def ring(self, wheel, *bundles):
        row = ledger(made_web(3, wheel, 2, "all", bundles))[0]
        self.assertEqual(row[3], 1)
        return row[4:6]

    def test_a_thread_that_is_there_twice(self):
        for wheel in (0, 1, 6):
            self.assertEqual(self.ring(wheel, (0, 1, 0, 0, 2), (1, 2, 0, 0, 1)), (wheel, 0))
        self.assertEqual(self.ring(6, (0, 1, 0, 0, 1), (0, 1, 0, 1, 1), (1, 2, 0, 0, 1)), (6, 0))

    def test_lesser_form(self):
        dues = ((6, 0), (1, 1), (2, 2), (3, 3), (2, 2), (1, 1))
        for length, due in enumerate(dues):
            self.assertEqual(self.ring(6, (0, 1, length, 0, 1), (1, 2, 0, 1, 1), (0, 2, 0, 0, 1)), due)
            self.assertEqual(self.ring(6, (0, 1, 0, 0, 1), (1, 2, 0, 1, 1), (0, 2, length, 0, 1)), due)
            self.assertEqual(self.ring(6, (0, 1, 2, 0, 1), (0, 1, (2 + length) % 6, 0, 1), (0, 2, 5, 0, 1)), due)

    def test_wheel_0(self):
        for length in (0, 1, 2, -1, -7, 10 ** 12 - 1):
            due = (abs(length), abs(length))
            self.assertEqual(self.ring(0, (0, 1, 4, 0, 1), (1, 2, -9, 1, 1), (0, 2, length - 5, 0, 1)), due)
            self.assertEqual(self.ring(0, (0, 1, 4, 0, 1), (1, 2, length - 9, 1, 1), (0, 2, -5, 0, 1)), due)

    def test_no_ring_without_spares_or_with_more(self):
        row = ledger(made_web(3, 6, 1, "all", ((0, 1, 1, 0, 1), (1, 2, 0, 0, 1))))[0]
        self.assertEqual(row, ("free", (0, 1, 2), (2,), 0, 6, None, (0, 1, 1)))
        row = ledger(made_web(3, 6, 1, "all", ((0, 1, 1, 0, 3), (1, 2, 0, 0, 1))))[0]
        self.assertEqual(row, ("free", (0, 1, 2), (4,), 2, 6, None, (0, 1, 1)))
        row = ledger(made_web(3, 0, 1, "all", ((0, 1, 1, 0, 10 ** 9 - 1), (1, 2, 0, 0, 1))))[0]
        self.assertEqual(row, ("free", (0, 1, 2), (10 ** 9,), 10 ** 9 - 2, 0, None, (0, 1, 1)))

    def test_ring_and_measure_of_a_larger_lot(self):
        # Four places in a circle, the sum around it is 4 + 1 + 3 + 2 = 10; by 15 the measure is 5.
        bundles = ((0, 1, 4, 0, 1), (1, 2, 1, 0, 1), (2, 3, 3, 0, 1), (0, 3, 13, 0, 1), (3, 4, 1, 0, 1))
        due = (("free", (0, 1, 2, 3, 4), (5,), 1, 5, 5, (0, 4, 0, 3, 4)),)
        self.assertEqual(ledger(made_web(5, 15, 1, "all", bundles)), due)

    def test_lengths_beyond_what_is_handed_in(self):
        great = 10 ** 50
        web = Web(3, 0, 1, "all", ((0, 1, great, 0, 1), (0, 1, -great, 0, 1), (1, 2, 3, 0, 1)))
        due = (("free", (0, 1, 2), (3,), 1, 2 * great, 2 * great, (0, great, great + 3)),)
        self.assertEqual(ledger(web), due)
        self.assertIs(joined(web, Web(3, 0, 1, "all", web.bundles)), True)


class JoinedTest(unittest.TestCase):
    def test_unlike(self):
        web = made_web(3, 5, 2, "all", ((0, 1, 0, 0, 1),))
        for other, what in (
            (made_web(4, 6, 3, "own", ()), "n"),
            (made_web(3, 6, 3, "own", ()), "wheel"),
            (made_web(3, 5, 3, "own", ()), "coats"),
            (made_web(3, 5, 2, "own", ((0, 1, 0, 0, 1),)), "rule"),
        ):
            assert_refused(self, Unlike, what, joined, web, other)
            assert_refused(self, Unlike, what, joined, other, web)
            assert_refused(self, Unlike, what, check_alike, other, web)
        self.assertIsNone(check_alike(web, made_web(3, 5, 2, "all", ())))

    def test_names(self):
        web = made_web(2, 5, 2, "all", ((0, 1, 0, 0, 1),))
        self.assertIs(joined(other=web, one=web), True)
        self.assertEqual(ledger(web=web), ledger(web))

    def test_webs_are_not_changed(self):
        web = of_lengths(5, "all", 1)
        before = web.bundles
        ledger(web)
        joined(web, web)
        self.assertEqual(web, Web(3, 5, 1, "all", before))

    def test_joined_exactly_if_led_to(self):
        """All webs of a few frames: two have the same ledger exactly if slides lead from one to the other."""
        for n, wheel, coats, many in (
            (3, 3, 2, 3), (3, 6, 1, 3), (3, 4, 1, 4), (4, 1, 2, 4), (4, 2, 1, 4), (3, 2, 2, 4), (4, 1, 3, 3),
            (3, 1, 2, 5), (2, 3, 2, 3), (5, 1, 1, 4),
        ):
            for rule in ("all", "others", "own"):
                with self.subTest(n=n, wheel=wheel, coats=coats, rule=rule, many=many):
                    told = []
                    for together in classes(n, wheel, coats, rule, many):
                        ledgers = {ledger(webbed(n, wheel, coats, rule, threads)) for threads in together}
                        self.assertEqual(len(ledgers), 1)
                        told.append(ledgers.pop())
                    self.assertEqual(len(set(told)), len(told))

    def test_renamed_webs(self):
        """The ledger of a renamed web has its lots by the new names, and the same numbers otherwise."""
        chance = random.Random(3)
        for _ in range(200):
            n, wheel, rule = chance.randint(2, 8), chance.choice((0, 1, 6, 10)), chance.choice(("all", "others"))
            bundles = []
            for _ in range(chance.randint(0, 9)):
                u, v = sorted(chance.sample(range(n), 2))
                bundles.append((u, v, chance.randint(0, max(wheel - 1, 0)), chance.randrange(2), chance.randint(1, 2)))
            web = made_web(n, wheel, 2, rule, tuple(bundles))
            places = chance.sample(range(n), n)
            told = ledger(renamed(web, tuple(places)))
            due = []
            for row in ledger(web):
                lot = (row[1],) if row[0] == "one" else row[1]
                due.append((row[0], tuple(sorted(places[place] for place in lot))))
            found = [(row[0], (row[1],) if row[0] == "one" else row[1]) for row in told]
            self.assertEqual(found, sorted(due, key=lambda row: row[1]))
            free = sorted(row[2:6] for row in ledger(web) if row[0] == "free" and row[5] is not None)
            self.assertEqual(sorted(row[2:6] for row in told if row[0] == "free" and row[5] is not None), free)

    def test_views(self):
        web = made_web(3, 5, 2, "own", ((0, 1, 0, 0, 1), (1, 2, 0, 1, 1)))
        self.assertEqual(
            views(web), [(((0, 1), (2,)), ((0, 1, 0, 0, 1),)), (((0,), (1, 2)), ((1, 2, 0, 1, 1),))]
        )
        web = made_web(3, 5, 2, "all", web.bundles)
        self.assertEqual(views(web), [(((0, 1, 2),), web.bundles)])


if __name__ == "__main__":
    unittest.main()
