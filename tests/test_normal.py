"""Point [12]: normal forms."""

import random
import unittest

from carriedends.ledger import joined, ledger
from carriedends.normal import normal
from carriedends.runs import walked
from carriedends.webs import Web, handy, made_web, many
from tests.helping import assert_same, random_web
from tests.plainly import classes, single, webbed

SMALL = (
    (3, 5, 1, "all", 3), (3, 4, 1, "all", 4), (3, 2, 2, "all", 3), (4, 2, 1, "all", 3), (3, 1, 4, "all", 3),
    (3, 2, 2, "others", 3), (3, 1, 2, "others", 4), (3, 1, 3, "others", 3), (4, 1, 2, "others", 3),
    (3, 2, 2, "own", 3), (4, 1, 2, "own", 3),
)


def plain_slots(row):
    """The positions of the threads of a free row, one by one, as [12] tells them in order."""
    _, lot, counts, spares, measure, ring, heights = row
    slots = [(place, height) for place, height in zip(lot, heights) if place != lot[0]]
    for index in range(spares):
        more = 0
        if index == 0:
            more = ring if spares == 1 else measure
        slots.append((lot[1], heights[1] + more))
    return slots


def plain_normal(web):
    """The normal form of a web of few threads, told thread by thread."""
    tables = ledger(web) if web.rule == "own" else (ledger(web),)
    threads = []
    for row in [row for table in tables for row in table]:
        if row[0] == "stuck":
            threads += [bundle[:4] for bundle in row[2] for _ in range(bundle[4])]
        elif row[0] == "free":
            coats = [coat for coat, count in enumerate(row[2]) for _ in range(count)]
            for (place, length), coat in zip(plain_slots(row), coats, strict=True):
                threads.append((row[1][0], place, length % web.wheel if web.wheel else length, coat))
    bundles = tuple((*thread, threads.count(thread)) for thread in sorted(set(threads)))
    return Web(web.n, web.wheel, web.coats, web.rule, bundles)


class NormalTest(unittest.TestCase):
    def assert_normal(self, web, bundles):
        found = normal(web)
        self.assertIs(type(found), Web)
        self.assertEqual((found.n, found.wheel, found.coats, found.rule), (web.n, web.wheel, web.coats, web.rule))
        assert_same(self, found.bundles, bundles)
        self.assertEqual(ledger(found), ledger(web))
        self.assertEqual(normal(found), found)

    def test_example_of_a_path(self):
        web = made_web(4, 1, 1, "all", ((0, 1, 0, 0, 1), (1, 2, 0, 0, 1), (2, 3, 0, 0, 1)))
        self.assert_normal(web, ((0, 1, 0, 0, 1), (0, 2, 0, 0, 1), (0, 3, 0, 0, 1)))

    def test_example_of_a_ring(self):
        threads = ((0, 1, 0, 0, 1), (1, 2, 0, 0, 1), (0, 2, 1, 0, 1))
        self.assert_normal(made_web(3, 5, 1, "all", threads), ((0, 1, 0, 0, 1), (0, 1, 1, 0, 1), (0, 2, 0, 0, 1)))
        web = made_web(3, 5, 1, "all", threads + ((0, 1, 0, 0, 1),))
        self.assert_normal(web, ((0, 1, 0, 0, 2), (0, 1, 1, 0, 1), (0, 2, 0, 0, 1)))

    def test_example_of_coats(self):
        web = made_web(3, 0, 2, "others", ((0, 1, 5, 1, 1), (1, 2, -2, 0, 1)))
        self.assert_normal(web, ((0, 1, 5, 0, 1), (0, 2, 3, 1, 1)))

    def test_example_of_many_threads(self):
        # The one of [13].
        many_threads = 10 ** 8
        web = made_web(3, 7, 2, "others", ((0, 1, 0, 0, 1), (0, 2, 0, 1, 1), (0, 2, 3, 1, many_threads)))
        self.assert_normal(web, ((0, 1, 0, 0, 1), (0, 1, 0, 1, many_threads - 1), (0, 1, 1, 1, 1), (0, 2, 0, 1, 1)))

    def test_nothing_to_write_anew(self):
        for rule in ("all", "others", "own"):
            self.assert_normal(made_web(1, 0, 1, rule, ()), ())
            self.assert_normal(made_web(20, 10 ** 6, 4, rule, ()), ())
            bundles = ((0, 2, 1, 0, 3), (0, 2, 4, 1, 1), (1, 4, 0, 3, 10 ** 8))
            self.assert_normal(made_web(5, 6, 4, rule, bundles), bundles)
        bundles = ((0, 1, 1, 2, 3), (1, 2, 4, 2, 2), (1, 2, 5, 2, 1))
        self.assert_normal(made_web(3, 6, 4, "others", bundles), bundles)

    def test_lots_beside_one_another(self):
        bundles = ((0, 4, 1, 0, 1), (4, 6, 2, 0, 1), (1, 5, 3, 0, 2), (2, 3, 4, 1, 1), (3, 7, 5, 0, 2))
        free = ((2, 3, 4, 0, 1), (2, 3, 4, 1, 1), (2, 7, 9, 0, 1))
        path = ((0, 4, 1, 0, 1), (0, 6, 3, 0, 1))
        self.assert_normal(made_web(9, 10, 2, "all", bundles), path + bundles[2:3] + free)
        # Under "others" the lot of one coat is stuck.
        self.assert_normal(made_web(9, 10, 2, "others", bundles), (bundles[0], bundles[2]) + free + (bundles[1],))

    def test_own_is_written_coat_by_coat(self):
        bundles = ((0, 1, 1, 0, 1), (0, 1, 2, 1, 1), (0, 2, 4, 1, 5), (1, 2, 2, 0, 1), (1, 2, 3, 1, 1))
        self.assert_normal(made_web(3, 12, 2, "own", bundles), (
            (0, 1, 0, 1, 5), (0, 1, 1, 0, 1), (0, 1, 1, 1, 1), (0, 2, 0, 1, 1), (0, 2, 3, 0, 1),
        ))

    def test_coats_go_first_to_keepers_then_to_spares(self):
        # Measure 2, four spares.
        bundles = ((0, 1, 0, 3, 1), (0, 1, 2, 2, 2), (1, 2, 1, 1, 1), (0, 2, 1, 0, 2))
        due = ((0, 1, 0, 0, 1), (0, 1, 0, 2, 2), (0, 1, 0, 3, 1), (0, 1, 2, 1, 1), (0, 2, 1, 0, 1))
        for rule in ("all", "others"):
            self.assert_normal(made_web(3, 4, 4, rule, bundles), due)

    def test_lengths_are_rests(self):
        # The height 4 of place 1 and the ring 2 come to 6, which is 1 by the wheel.
        web = made_web(3, 5, 1, "all", ((0, 1, 4, 0, 1), (0, 2, 0, 0, 1), (1, 2, 3, 0, 1)))
        self.assertEqual(ledger(web)[0][4:], (1, 2, (0, 0, 0)))
        web = made_web(3, 12, 1, "all", ((0, 1, 5, 0, 2), (0, 1, 11, 0, 1), (0, 2, 0, 0, 1)))
        self.assertEqual(ledger(web)[0][4:], (6, None, (0, 5, 0)))
        self.assert_normal(web, ((0, 1, 5, 0, 2), (0, 1, 11, 0, 1), (0, 2, 0, 0, 1)))
        web = made_web(3, 12, 1, "all", ((0, 1, 11, 0, 2), (0, 2, 0, 0, 1)))
        self.assert_normal(web, ((0, 1, 11, 0, 2), (0, 2, 0, 0, 1)))
        # With the measure M the first spare is M longer, which is nothing.
        web = made_web(3, 12, 1, "all", ((0, 1, 11, 0, 3), (0, 2, 0, 0, 1)))
        self.assert_normal(web, ((0, 1, 11, 0, 3), (0, 2, 0, 0, 1)))
        web = made_web(3, 0, 1, "all", ((0, 1, -7, 0, 3), (1, 2, 0, 0, 1)))
        self.assert_normal(web, ((0, 1, -7, 0, 3), (0, 2, -7, 0, 1)))
        web = made_web(3, 0, 1, "all", ((0, 1, -7, 0, 1), (0, 1, -1, 0, 1), (1, 2, 0, 0, 1)))
        self.assert_normal(web, ((0, 1, 5, 0, 1), (0, 1, 11, 0, 1), (0, 2, 5, 0, 1)))

    def test_small_webs_have_one_normal_form_for_each_class(self):
        for n, wheel, coats, rule, count in SMALL:
            with self.subTest(n=n, wheel=wheel, coats=coats, rule=rule, count=count):
                for together in classes(n, wheel, coats, rule, count):
                    webs = [webbed(n, wheel, coats, rule, threads) for threads in together]
                    form = normal(webs[0])
                    self.assertIn(single(form), together)
                    self.assertEqual(form, plain_normal(webs[0]))
                    for web in webs:
                        self.assertEqual(normal(web), form)

    def test_random_webs(self):
        rng = random.Random(12)
        for _ in range(400):
            wheel = rng.choice((0, 0, 1, 2, 5, 6, 12, 360, 10 ** 6))
            web = random_web(
                rng, n=rng.randint(3, 7), wheel=wheel, coats=rng.randint(1, 4), bundles=rng.randint(0, 12),
                rule=rng.choice(("all", "others", "own")), counts=(1, 1, 1, 2, 3),
            )
            form = normal(web)
            self.assertEqual(form, plain_normal(web))
            self.assertTrue(joined(web, form))
            self.assertEqual([many(form, coat) for coat in range(web.coats)],
                             [many(web, coat) for coat in range(web.coats)])

    def test_webs_that_are_not_handy(self):
        far = 10 ** 12 - 1
        web = made_web(4, 0, 1, "all", ((0, 1, far, 0, 1), (1, 2, far, 0, 1), (2, 3, far, 0, 1)))
        self.assert_normal(web, ((0, 1, far, 0, 1), (0, 2, 2 * far, 0, 1), (0, 3, 3 * far, 0, 1)))
        self.assertFalse(handy(normal(web)))
        run = (("round", 0, 1, far, 0, 2, 5, 0, 0, 0, 1, 10 ** 39), )
        web = made_web(3, 0, 1, "all", ((0, 1, far, 0, 1), (1, 2, 5, 0, 1), (1, 2, 0, 0, 1)))
        after = walked(web, run)
        self.assertFalse(handy(after))
        self.assertEqual(normal(after), normal(web))

    def test_nothing_is_changed(self):
        web = made_web(4, 1, 1, "all", ((0, 1, 0, 0, 1), (1, 2, 0, 0, 1), (2, 3, 0, 0, 1)))
        bundles = web.bundles
        self.assertEqual(normal(web=web), normal(web))
        self.assertEqual(web.bundles, bundles)


if __name__ == "__main__":
    unittest.main()
