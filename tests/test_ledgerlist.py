"""Point [30]: all ledgers of the webs of so many places and threads."""

import unittest

from carriedends.errors import BadCount, BadSize, BadWheel, TooMany
from carriedends.howmany import ledgers
from carriedends.ledger import ledger
from carriedends.ledgerforms import is_ledger, written
from carriedends.ledgerlist import all_ledgers
from carriedends.webs import many
from tests.helping import assert_refused, assert_same, is_plain
from tests.plainly import all_bags, webbed


class AllLedgersTest(unittest.TestCase):
    def assert_listed(self, n, count, wheel):
        found = all_ledgers(n, count, wheel)
        self.assertIs(type(found), tuple)
        self.assertTrue(is_plain(found, True))
        self.assertEqual(len(found), ledgers(n, count, wheel))
        self.assertEqual(len(set(found)), len(found))
        return found

    def test_against_all_webs(self):
        for n, count, wheel in (
            (1, 0, 5), (2, 0, 2), (2, 3, 3), (3, 1, 4), (3, 2, 6), (3, 3, 5), (3, 4, 4), (3, 5, 2), (4, 3, 2), (4, 4, 2),
            (4, 5, 1), (5, 4, 1), (3, 3, 6), (3, 4, 6),
        ):
            due = {ledger(webbed(n, wheel, 1, "all", threads)) for threads in all_bags(n, wheel, 1, count)}
            self.assertEqual(set(self.assert_listed(n, count, wheel)), due)

    def test_greater_ones(self):
        for n, count, wheel in (
            (20, 0, 1000), (20, 1, 10), (5, 5, 1), (3, 20, 3), (2, 40, 3), (2, 1, 1000), (2, 2, 62), (3, 2, 25), (1, 0, 1),
            (4, 40, 1), (6, 5, 1), (3, 40, 2), (10, 2, 1),
        ):
            for thing in self.assert_listed(n, count, wheel):
                self.assertIs(is_ledger(n, wheel, 1, "all", thing), True)
                web = written(n, wheel, 1, "all", thing)
                self.assertEqual(ledger(web), thing)
                self.assertEqual(many(web, 0), count)

    def test_no_places_and_no_webs(self):
        assert_same(self, all_ledgers(0, 0, 1), ((),))
        assert_same(self, all_ledgers(0, 1, 7), ())
        assert_same(self, all_ledgers(0, 40, 1000), ())
        assert_same(self, all_ledgers(M=9, many=0, n=1), ((("one", 0),),))
        assert_same(self, all_ledgers(1, 1, 1), ())

    def test_too_many(self):
        # Five places and one thread: ten pairs of places, each with M lengths.
        self.assertEqual(len(self.assert_listed(5, 1, 200)), 2000)
        for n, count, wheel, total in ((5, 1, 201, 2010), (3, 1, 667, 2001)):
            self.assertEqual(ledgers(n, count, wheel), total)
            assert_refused(self, TooMany, total, all_ledgers, n, count, wheel)
        assert_refused(self, TooMany, ledgers(20, 40, 1000), all_ledgers, 20, 40, 1000)

    def test_bad_arguments(self):
        for n in (-1, 21, 10 ** 30):
            assert_refused(self, BadSize, n, all_ledgers, n, -1, 0)
        for count in (-1, 41, 10 ** 30):
            assert_refused(self, BadCount, count, all_ledgers, 20, count, 0)
        for wheel in (0, -1, 1001, 10 ** 30):
            assert_refused(self, BadWheel, wheel, all_ledgers, 20, 40, wheel)


if __name__ == "__main__":
    unittest.main()
