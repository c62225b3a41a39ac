"""Point [17]: numbers of ledgers."""

import math
import unittest

from carriedends.choosing import bags
from carriedends.errors import BadCount, BadSize, BadWheel
from carriedends.howmany import ledgers, lot_ledgers
from carriedends.ledger import ledger
from tests.helping import assert_refused
from tests.plainly import all_bags, webbed


def plain_ledgers(n, many, wheel):
    """The ledgers of all webs."""
    return {ledger(webbed(n, wheel, 1, "all", threads)) for threads in all_bags(n, wheel, 1, many)}


class LotLedgersTest(unittest.TestCase):
    def test_one_and_two_places(self):
        for wheel in (1, 2, 7, 1000):
            self.assertEqual([lot_ledgers(1, many, wheel) for many in (0, 1, 2, 40)], [1, 0, 0, 0])
            self.assertEqual(lot_ledgers(2, 0, wheel), 0)
            for many in (1, 2, 40):
                self.assertEqual(lot_ledgers(2, many, wheel), bags(wheel, many))

    def test_more_places(self):
        self.assertEqual([lot_ledgers(3, many, 5) for many in range(6)], [0, 0, 25, 27, 26, 26])
        self.assertEqual([lot_ledgers(3, many, 6) for many in range(6)], [0, 0, 36, 36 + 1 + 4 + 9, 50, 50])
        self.assertEqual([lot_ledgers(4, many, 4) for many in range(7)], [0, 0, 0, 64, 64 + 1 + 8, 73, 73])
        self.assertEqual(lot_ledgers(20, 19, 1000), 1000 ** 19)
        self.assertEqual(lot_ledgers(b=20, many=40, M=1), 1)
        self.assertEqual(lot_ledgers(20, 20, 1000), sum(math.gcd(1000, ring) ** 19 for ring in range(501)))
        self.assertEqual(lot_ledgers(20, 21, 1000), sum(d ** 19 for d in range(1, 1001) if 1000 % d == 0))

    def test_against_all_webs(self):
        for b, many, wheel in (
            (2, 2, 3), (3, 2, 4), (3, 3, 4), (3, 3, 6), (3, 4, 4), (3, 5, 2), (4, 3, 2), (4, 4, 2), (4, 5, 2),
        ):
            hanging = [table for table in plain_ledgers(b, many, wheel) if len(table) == 1]
            self.assertEqual(lot_ledgers(b, many, wheel), len(hanging))

    def test_errors(self):
        for b in (0, -1, 21):
            assert_refused(self, BadSize, b, lot_ledgers, b, -1, 0)
        for many in (-1, 41):
            assert_refused(self, BadCount, many, lot_ledgers, 20, many, 0)
        for wheel in (0, -1, 1001):
            assert_refused(self, BadWheel, wheel, lot_ledgers, 1, 40, wheel)


class LedgersTest(unittest.TestCase):
    def test_examples(self):
        self.assertEqual(ledgers(3, 3, 5), 132)
        for wheel in (1, 5, 1000):
            self.assertEqual([ledgers(0, many, wheel) for many in (0, 1, 40)], [1, 0, 0])

    def test_against_all_webs(self):
        for n, many, wheel in (
            (1, 0, 5), (1, 2, 5), (2, 0, 5), (2, 3, 4), (3, 0, 2), (3, 1, 5), (3, 3, 5), (3, 4, 3), (4, 2, 3), (4, 3, 3),
            (4, 4, 2), (5, 3, 1), (5, 4, 1), (5, 2, 2), (6, 3, 1),
        ):
            self.assertEqual(ledgers(n, many, wheel), len(plain_ledgers(n, many, wheel)), (n, many, wheel))

    def test_great_numbers(self):
        # Without wheel a ledger tells how the places are parted into lots and how many threads each lot has.
        self.assertEqual(ledgers(many=0, n=20, M=1000), 1)
        self.assertEqual(ledgers(20, 1, 7), 190 * 7)
        self.assertGreater(ledgers(20, 40, 1000), 1000 ** 19)

    def test_errors(self):
        for n in (-1, 21):
            assert_refused(self, BadSize, n, ledgers, n, -1, 0)
        for many in (-1, 41):
            assert_refused(self, BadCount, many, ledgers, 0, many, 0)
        for wheel in (0, -1, 1001):
            assert_refused(self, BadWheel, wheel, ledgers, 0, 0, wheel)


if __name__ == "__main__":
    unittest.main()
