"""Point [9]: unlike threads, and the exchange of two threads."""

import random
import unittest

from carriedends.deeds import slides_of
from carriedends.pairs import exchange_deeds
from carriedends.runs import walked
from carriedends.threads import laid, unlike
from carriedends.webs import made_web
from tests.helping import assert_same


class UnlikeTest(unittest.TestCase):
    def test_rules(self):
        for one in range(4):
            for other in range(4):
                self.assertIs(unlike("all", one, other), True)
                self.assertIs(unlike("others", one, other), one != other)
                self.assertIs(unlike("own", one, other), one == other)


class ExchangeTest(unittest.TestCase):
    def test_example(self):
        assert_same(self, exchange_deeds(5, 0, 1, 1, 0, 2, 3, 1, j=4), (
            ("carry", 1, 0, 4, 0, 2, 3, 1, 4), ("carry", 0, 2, 3, 1, 1, 3, 0, 1), ("carry", 2, 1, 3, 0, 0, 4, 1, 4),
        ))

    def test_wheel_0_and_one_thread(self):
        assert_same(self, exchange_deeds(0, 4, 2, 7, 1, 3, -9, 0), (
            ("carry", 2, 4, -7, 1, 3, -9, 0, 1), ("carry", 4, 3, -9, 0, 2, 16, 1, 1),
            ("carry", 3, 2, 16, 1, 4, -7, 0, 1),
        ))

    def test_lengths_of_any_size_and_sign(self):
        assert_same(
            self, exchange_deeds(5, 0, 1, 5 * 10 ** 60 + 1, 0, 2, -2, 1, j=4), exchange_deeds(5, 0, 1, 1, 0, 2, 3, 1, j=4)
        )
        assert_same(self, exchange_deeds(1, 0, 1, -7, 0, 2, 9, 1), exchange_deeds(1, 0, 1, 0, 0, 2, 0, 1, j=1))

    def test_names(self):
        named = exchange_deeds(wheel=5, p=0, x=1, lx=1, a=0, y=2, ly=3, b=1, j=4)
        self.assertEqual(named, exchange_deeds(5, 0, 1, 1, 0, 2, 3, 1, j=4))
        self.assertRaises(TypeError, exchange_deeds, 5, 0, 1, 1, 0, 2, 3, 1, 4)

    def test_slides(self):
        for j in (1, 2, 10 ** 9):
            self.assertEqual(slides_of(exchange_deeds(7, 3, 0, 1, 2, 1, 5, 0, j=j)), 2 * j + 1)

    def test_example_of_the_normal_form(self):
        # [13]: 10 ** 8 threads change their places with the thread of coat 0.
        web = made_web(3, 7, 2, "others", ((0, 1, 0, 0, 1), (0, 2, 0, 1, 1), (0, 2, 3, 1, 10 ** 8)))
        run = exchange_deeds(7, 0, 2, 3, 1, 1, 0, 0, j=10 ** 8)
        due = ((0, 1, 0, 1, 10 ** 8), (0, 2, 0, 1, 1), (0, 2, 3, 0, 1))
        self.assertEqual(walked(web, run).bundles, due)
        self.assertEqual(len(run), 3)
        self.assertEqual(slides_of(run), 2 * 10 ** 8 + 1)

    def test_what_it_does(self):
        """B lies then as one of the j threads lay, the j threads lie as B lay, all else stays."""
        chance = random.Random(9)
        for _ in range(400):
            rule = chance.choice(("all", "others", "own"))
            wheel, n = chance.choice((0, 1, 2, 5, 12)), chance.randint(3, 6)
            p, x, y = chance.sample(range(n), 3)
            a = chance.randrange(3)
            b = chance.choice([coat for coat in range(3) if unlike(rule, a, coat)])
            lx, ly = chance.randint(-20, 20), chance.randint(-20, 20)
            j, further = chance.randint(1, 5), chance.randint(0, 2)

            def thread(place, length, coat, count):
                return (*laid(p, place, length % wheel if wheel else length, coat, wheel), count)

            others = ()
            for _ in range(chance.randint(0, 4)):
                u, v = sorted(chance.sample(range(n), 2))
                others += ((u, v, chance.randrange(wheel or 5), chance.randrange(3), chance.randint(1, 3)),)
            if further:
                others += (thread(x, lx, a, further), thread(y, ly, b, further))
            before = made_web(n, wheel, 3, rule, others + (thread(x, lx, a, j), thread(y, ly, b, 1)))
            after = made_web(n, wheel, 3, rule, others + (thread(x, lx, b, 1), thread(y, ly, a, j)))
            self.assertEqual(walked(before, exchange_deeds(wheel, p, x, lx, a, y, ly, b, j=j)), after)


if __name__ == "__main__":
    unittest.main()
