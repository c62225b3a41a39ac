"""Point [17]: sizes of classes."""

import math
import random
import unittest

from carriedends.choosing import bags
from carriedends.classsize import class_size, lot_size
from carriedends.connected import connected
from carriedends.errors import BadCount, TooMany
from carriedends.ledger import ledger
from carriedends.webs import Web, made_web
from tests.helping import assert_refused
from tests.plainly import classes, reached, webbed

# Families of which all webs are looked at: places, wheel, coats, rule, threads.
SMALL = (
    (2, 3, 2, "all", 3), (3, 5, 1, "all", 3), (3, 4, 1, "all", 4), (3, 6, 1, "all", 3), (3, 6, 1, "all", 4),
    (3, 2, 2, "all", 3), (3, 2, 2, "all", 4), (3, 1, 4, "all", 3), (3, 1, 3, "all", 4), (4, 2, 1, "all", 3),
    (4, 3, 1, "all", 4), (4, 1, 1, "all", 5), (4, 1, 2, "all", 4),
    (3, 2, 2, "others", 3), (3, 2, 2, "others", 4), (3, 4, 2, "others", 3), (3, 1, 2, "others", 4),
    (3, 1, 3, "others", 4), (3, 1, 4, "others", 3), (4, 1, 2, "others", 4), (4, 2, 2, "others", 3),
    (3, 2, 2, "own", 4), (3, 1, 3, "own", 3), (4, 1, 2, "own", 4), (3, 3, 2, "own", 3),
)


def row(places, counts, spares, measure, ring):
    return ("free", tuple(range(places)), counts, spares, measure, ring, (0,) * places)


class ClassSizeTest(unittest.TestCase):
    def size(self, n, wheel, coats, rule, *bundles):
        found = class_size(made_web(n, wheel, coats, rule, bundles))
        self.assertIs(type(found), int)
        return found

    def test_examples(self):
        self.assertEqual(self.size(4, 1, 1, "all", (0, 1, 0, 0, 1), (1, 2, 0, 0, 1), (2, 3, 0, 0, 1)), 16)
        path = ((0, 1, 0, 0, 1), (1, 2, 0, 0, 1))
        self.assertEqual([self.size(3, 5, 1, "all", *path, (0, 2, at, 0, 1)) for at in range(5)],
                         [7, 200, 200, 200, 200])
        self.assertEqual(self.size(3, 0, 1, "all", (0, 1, 0, 0, 2), (1, 2, 5, 0, 1)), 7)
        self.assertEqual(self.size(3, 1, 2, "others", (0, 1, 0, 0, 1), (1, 2, 0, 1, 1)), 6)

    def test_endless(self):
        bundles = ((0, 1, 0, 0, 1), (0, 1, 4, 0, 1), (1, 2, 5, 0, 1))
        self.assertIs(class_size(made_web(3, 0, 1, "all", bundles)), None)
        self.assertIs(class_size(made_web(3, 0, 1, "own", bundles)), None)
        self.assertIs(class_size(made_web(3, 0, 1, "all", ((0, 1, 1, 0, 10 ** 9 - 2), (0, 1, 0, 0, 1), (1, 2, 5, 0, 1)))), None)
        # Beside an endless row the others do not count.
        self.assertIs(class_size(made_web(6, 0, 1, "all", bundles + ((3, 4, 0, 0, 10 ** 7), (4, 5, 0, 0, 1)))), None)

    def test_nothing_free(self):
        self.assertEqual(self.size(1, 0, 1, "all"), 1)
        self.assertEqual(self.size(20, 7, 3, "own"), 1)
        self.assertEqual(self.size(4, 7, 3, "all", (0, 1, 2, 1, 10 ** 8), (2, 3, 2, 1, 5)), 1)
        self.assertEqual(self.size(3, 0, 3, "others", (0, 1, 2, 1, 10 ** 8), (1, 2, 2, 1, 5)), 1)

    def test_all_small_webs(self):
        for n, wheel, coats, rule, count in SMALL:
            with self.subTest(n=n, wheel=wheel, coats=coats, rule=rule, count=count):
                for together in classes(n, wheel, coats, rule, count):
                    web = webbed(n, wheel, coats, rule, min(together))
                    self.assertEqual(class_size(web), len(together))

    def test_some_greater_classes(self):
        for n, wheel, coats, rule, threads in (
            (5, 1, 1, "all", ((0, 1, 0, 0), (1, 2, 0, 0), (2, 3, 0, 0), (3, 4, 0, 0), (0, 4, 0, 0))),
            (4, 2, 2, "others", ((0, 1, 0, 0), (1, 2, 0, 0), (2, 3, 0, 0), (0, 3, 0, 1))),
            (4, 2, 2, "others", ((0, 1, 0, 0), (1, 2, 0, 0), (2, 3, 0, 0), (0, 3, 1, 1))),
            (6, 2, 2, "all", ((0, 1, 0, 0), (1, 2, 1, 1), (3, 4, 0, 0), (4, 5, 1, 1), (3, 5, 1, 1))),
        ):
            web = webbed(n, wheel, coats, rule, tuple(sorted(threads)))
            self.assertEqual(class_size(web), len(reached(wheel, rule, tuple(sorted(threads)))))

    def test_classes_without_lengths_by_the_wheel_0(self):
        # With the measure 0 the heights tell all lengths, so there are as many webs as with the wheel 1.
        rng = random.Random(17)
        for _ in range(30):
            n = rng.randint(3, 4)
            heights = [rng.randrange(100) for _ in range(n)]
            threads = []
            for _ in range(rng.randint(2, 5)):
                u, v = sorted(rng.sample(range(n), 2))
                threads.append((u, v, heights[v] - heights[u], rng.randrange(2)))
            for rule in ("all", "others", "own"):
                found = class_size(webbed(n, 0, 2, rule, threads))
                self.assertEqual(found, len(reached(0, rule, tuple(sorted(threads)))))
                self.assertEqual(found, class_size(webbed(n, 1, 2, rule, [(u, v, 0, c) for u, v, _, c in threads])))

    def test_sizes_add_up_to_all_bags(self):
        for n, wheel, count in ((3, 5, 3), (3, 6, 4), (4, 2, 4), (4, 1, 5), (3, 1, 6)):
            sizes = {}
            for together in classes(n, wheel, 1, "all", count):
                web = webbed(n, wheel, 1, "all", min(together))
                sizes[ledger(web)] = class_size(web)
            self.assertEqual(sum(sizes.values()), bags(wheel * math.comb(n, 2), count))

    def test_product_of_rows(self):
        path = ((0, 1, 0, 0, 1), (1, 2, 0, 0, 1), (0, 2, 1, 0, 1), (3, 4, 0, 0, 1), (4, 5, 0, 0, 1))
        self.assertEqual(self.size(6, 5, 1, "all", *path), 200 * 3)
        own = ((0, 1, 0, 0, 1), (1, 2, 0, 0, 1), (0, 2, 1, 0, 1), (0, 1, 0, 1, 1), (1, 2, 0, 1, 1))
        self.assertEqual(self.size(6, 5, 2, "own", *own), 200 * 3)

    def test_when_it_is_not_computed(self):
        # Three places: K is q * 3. 133 * 3 is 399, 134 * 3 is 402.
        for wheel, due in ((133, None), (134, 402), (10 ** 6, 3 * 10 ** 6)):
            for counts in ((60, 1), (61, 1)):
                bundles = ((0, 1, 0, 0, counts[0] - 1), (0, 1, 1, 0, 1), (1, 2, 0, 1, 1))
                web = made_web(3, wheel, 2, "all", bundles)
                if due is None or counts[0] == 60:
                    self.assertGreater(class_size(web), 0)
                    self.assertEqual(lot_size(ledger(web)[0], wheel), class_size(web))
                else:
                    assert_refused(self, TooMany, due, class_size, web)
                    assert_refused(self, TooMany, due, lot_size, ledger(web)[0], wheel)
        # Five places: K is q * 10, and 400 is not too many.
        self.assertGreater(lot_size(row(5, (61,), 57, 1, None), 40), 0)
        assert_refused(self, TooMany, 410, lot_size, row(5, (61,), 57, 1, None), 41)
        # q is what counts, not the wheel.
        web = made_web(3, 1000, 1, "all", ((0, 1, 0, 0, 100), (0, 1, 10, 0, 1), (1, 2, 0, 0, 1)))
        self.assertGreater(class_size(web), 0)
        web = made_web(3, 1000, 1, "all", ((0, 1, 0, 0, 100), (0, 1, 5, 0, 1), (1, 2, 0, 0, 1)))
        assert_refused(self, TooMany, 600, class_size, web)
        web = made_web(3, 0, 1, "all", ((0, 1, 0, 0, 10 ** 8), (1, 2, 0, 0, 1)))
        self.assertEqual(class_size(web), math.comb(10 ** 8 + 3, 2) - 3)

    def test_first_row_that_is_not_computed(self):
        one = ((0, 1, 0, 0, 61), (0, 1, 1, 0, 1), (1, 2, 0, 0, 1))
        two = ((3, 4, 0, 0, 61), (3, 4, 2, 0, 1), (4, 5, 0, 0, 1))
        assert_refused(self, TooMany, 3000, class_size, made_web(6, 1000, 1, "all", one + two))
        assert_refused(self, TooMany, 1500, class_size, made_web(6, 1000, 1, "all", two))
        turned = tuple((u + 3, v + 3, length, coat, count) for u, v, length, coat, count in one)
        first = tuple((u - 3, v - 3, length, coat, count) for u, v, length, coat, count in two)
        assert_refused(self, TooMany, 1500, class_size, made_web(6, 1000, 1, "all", first + turned))
        # Coat by coat under "own".
        other_coat = tuple((u, v, length, 1, count) for u, v, length, coat, count in first)
        assert_refused(self, TooMany, 1500, class_size, made_web(6, 1000, 2, "own", other_coat))
        assert_refused(self, TooMany, 3000, class_size, made_web(6, 1000, 2, "own", other_coat + turned))


class LotSizeTest(unittest.TestCase):
    def test_by_name(self):
        self.assertEqual(lot_size(wheel=5, free=row(3, (3,), 1, 1, 1)), 200)

    def test_no_spare(self):
        self.assertEqual(lot_size(row(20, (19,), 0, 7, None), 7), 20 ** 18)
        self.assertEqual(lot_size(row(20, (10, 5, 4, 0), 0, 7, None), 7),
                         20 ** 18 * math.factorial(19) // math.factorial(10) // math.factorial(5) // 24)
        self.assertEqual(lot_size(row(3, (1, 1), 0, 0, None), 0), 6)

    def test_one_spare(self):
        # Twice the ring 2 is 0 by the wheel 4.
        self.assertEqual(lot_size(row(3, (3,), 1, 2, 2), 4), 1 * 4 + 3 * 2 * 4 // 2)
        self.assertEqual(lot_size(row(3, (3,), 1, 1, 1), 4), 1 * 16 * 2 + 3 * 2 * 16 * 2 // 2)
        self.assertEqual(lot_size(row(3, (2, 1), 1, 4, 0), 4), 1 * 3 + 3 * 2 * (3 + 1) // 2)
        self.assertEqual(lot_size(row(3, (1, 1, 1), 1, 4, 0), 4), 6 + 3 * 2 * 6 // 2)
        self.assertEqual(lot_size(row(4, (2, 2), 1, 0, 0), 0), 15 * 6 + 16 * 3 * (6 + 2) // 2)
        self.assertIs(lot_size(row(3, (3,), 1, 5, 5), 0), None)

    def test_more_spares(self):
        self.assertEqual(lot_size(row(3, (4,), 2, 1, None), 1), connected(3, (4,), 1))
        self.assertEqual(lot_size(row(3, (4,), 2, 12, None), 12), connected(3, (4,), 1))
        self.assertEqual(lot_size(row(3, (4,), 2, 0, None), 0), connected(3, (4,), 1))
        self.assertEqual(lot_size(row(3, (4,), 2, 1, None), 4), connected(3, (4,), 4) - 4 * connected(3, (4,), 2))
        self.assertEqual(lot_size(row(3, (4,), 2, 2, None), 12), sum(
            sign * k ** 2 * connected(3, (4,), 6 // k) for k, sign in ((1, 1), (2, -1), (3, -1), (6, 1))
        ))
        self.assertIs(lot_size(row(3, (4,), 2, 5, None), 0), None)

    def test_rows_beyond_what_can_be_handed_in(self):
        # [30] sets no bounds to the counts of a row: three places, the threads lie at two or three of the pairs.
        for count in (10 ** 9, 10 ** 9 + 1, 10 ** 10, 10 ** 50):
            due = math.comb(count + 2, 2) - 3
            self.assertEqual(lot_size(row(3, (count,), count - 2, 1, None), 1), due)
            self.assertEqual(lot_size(row(3, (count,), count - 2, 0, None), 0), due)
            self.assertEqual(lot_size(row(3, (2, count), count, 0, None), 0), 6 * math.comb(count + 2, 2) - 3)
            self.assertEqual(lot_size(row(3, (0, 0, 0, count), count - 2, 7, None), 7), due)
            # With two lengths for each of the pairs, less those that have one measure more.
            two = bags(6, count) - 3 * bags(2, count) - 4 * due
            self.assertEqual(lot_size(row(3, (count,), count - 2, 1, None), 2), two)
        assert_refused(self, TooMany, 402, lot_size, row(3, (10 ** 10,), 10 ** 10 - 2, 1, None), 134)
        self.assertIs(lot_size(row(3, (10 ** 10,), 10 ** 10 - 2, 4, None), 0), None)

    def test_webs_beyond_what_can_be_handed_in(self):
        for count in (10 ** 9, 10 ** 10):
            for rule, wheel in (("all", 1), ("all", 0), ("own", 0)):
                web = Web(3, wheel, 1, rule, ((0, 1, 0, 0, count - 1), (1, 2, 0, 0, 1)))
                self.assertEqual(class_size(web), math.comb(count + 2, 2) - 3)
            web = Web(3, 0, 2, "others", ((0, 1, 0, 0, count), (1, 2, 0, 1, 2)))
            self.assertEqual(class_size(web), 6 * math.comb(count + 2, 2) - 3)
            # The number of bags itself goes on refusing such counts.
            self.assertEqual(connected(3, (10 ** 9,), 1), math.comb(10 ** 9 + 2, 2) - 3)
        assert_refused(self, BadCount, 0, connected, 3, (10 ** 9 + 1,), 1)
        assert_refused(self, BadCount, 1, connected, 3, (2, 10 ** 9 + 1), 1)


if __name__ == "__main__":
    unittest.main()
