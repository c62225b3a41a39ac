"""Points [7] and [8]: offers, stirs, runs, and runs turned."""

import random
import unittest

from carriedends.carrying import done
from carriedends.deeds import slides_of, turned
from carriedends.errors import BadRow, TooMany
from carriedends.ledger import joined, ledger
from carriedends.runs import offers, stirs, walked
from carriedends.webs import Web, made_web
from tests.helping import assert_refused, assert_same
from tests.plainly import all_bags, slid, webbed


def has_free_row(web):
    tables = ledger(web) if web.rule == "own" else (ledger(web),)
    return any(row[0] == "free" for table in tables for row in table)


def any_web(chance, rule, most=12):
    """Some web by the wheel 0 or another one."""
    n, wheel, coats = chance.randint(2, 8), chance.choice((0, 0, 1, 2, 7, 12)), chance.randint(1, 3)
    bundles = []
    for _ in range(chance.randint(0, most)):
        u, v = sorted(chance.sample(range(n), 2))
        length = chance.randint(-9, 9) if wheel == 0 else chance.randrange(wheel)
        bundles.append((u, v, length, chance.randrange(coats), chance.randint(1, 3)))
    return made_web(n, wheel, coats, rule, tuple(bundles))


def any_run(chance, web, many):
    """Some granted run, in which offers are taken for many threads, and some deeds go round."""
    run = []
    for _ in range(many):
        offered = offers(web)
        if not offered:
            break
        _, u, v, length, coat, w, rail, railcoat, _ = chance.choice(offered)
        count = sum(row[4] for row in web.bundles if row[:4] in (
            (u, v, length, coat), (v, u, -length % web.wheel if web.wheel else -length, coat)))
        deed = ("carry", u, v, length, coat, w, rail, railcoat, chance.randint(1, count))
        backs = [row for row in offered if row[1:6] == (u, v, length, coat, w)]
        if chance.random() < 0.4:
            out, back = chance.choice(backs), chance.choice(backs)
            back_length = -back[6] % web.wheel if web.wheel else -back[6]
            deed = ("round", u, v, length, coat, w, out[6], out[7], back_length, back[7], deed[8], chance.randint(1, 9))
        run.append(deed)
        web = done(web, deed)
    return (tuple(run), web)


class OffersTest(unittest.TestCase):
    def test_example(self):
        web = made_web(3, 1, 2, "others", ((0, 1, 0, 0, 1), (0, 2, 0, 1, 1)))
        assert_same(
            self, offers(web), (("carry", 1, 0, 0, 0, 2, 0, 1, 1), ("carry", 2, 0, 0, 1, 1, 0, 0, 1))
        )
        self.assertIs(stirs(web), True)

    def test_none(self):
        for web in (
            made_web(1, 0, 1, "all", ()),
            made_web(3, 5, 1, "all", ()),
            made_web(4, 5, 2, "all", ((0, 1, 0, 0, 5), (0, 1, 1, 1, 5), (2, 3, 0, 0, 1))),
            made_web(3, 5, 2, "others", ((0, 1, 0, 1, 1), (1, 2, 0, 1, 1))),
            made_web(3, 5, 2, "own", ((0, 1, 0, 0, 1), (1, 2, 0, 1, 1))),
            made_web(5, 5, 2, "others", ((0, 1, 0, 1, 1), (1, 2, 0, 1, 1), (3, 4, 0, 0, 1))),
        ):
            assert_same(self, offers(web), ())
            self.assertIs(stirs(web), False)

    def test_each_once_for_like_threads(self):
        web = made_web(3, 5, 1, "all", ((0, 1, 1, 0, 10 ** 9 - 7), (0, 2, 2, 0, 7)))
        assert_same(self, offers(web), (("carry", 1, 0, 4, 0, 2, 2, 0, 1), ("carry", 2, 0, 3, 0, 1, 1, 0, 1)))

    def test_both_ends_and_all_rails(self):
        web = made_web(4, 0, 2, "all", ((0, 1, 5, 0, 1), (1, 2, -3, 1, 2), (0, 3, 2, 0, 1), (1, 2, 4, 0, 1)))
        assert_same(self, offers(web), (
            ("carry", 0, 1, 5, 0, 2, -3, 1, 1),
            ("carry", 0, 1, 5, 0, 2, 4, 0, 1),
            ("carry", 1, 0, -5, 0, 3, 2, 0, 1),
            ("carry", 2, 1, -4, 0, 0, -5, 0, 1),
            ("carry", 2, 1, 3, 1, 0, -5, 0, 1),
            ("carry", 3, 0, -2, 0, 1, 5, 0, 1),
        ))

    def test_under_own(self):
        web = made_web(3, 1, 2, "own", ((0, 1, 0, 0, 1), (0, 1, 0, 1, 1), (1, 2, 0, 1, 1)))
        assert_same(self, offers(web), (("carry", 0, 1, 0, 1, 2, 0, 1, 1), ("carry", 2, 1, 0, 1, 0, 0, 1, 1)))

    def test_small_webs(self):
        for n, wheel, coats, many in ((3, 3, 2, 2), (4, 2, 1, 3), (4, 1, 2, 3), (3, 2, 2, 3), (2, 3, 2, 3)):
            for rule in ("all", "others", "own"):
                for threads in all_bags(n, wheel, coats, many):
                    web = webbed(n, wheel, coats, rule, threads)
                    due = tuple(sorted({("carry", *slide, 1) for _, slide in slid(wheel, rule, threads)}))
                    self.assertEqual(offers(web), due)
                    self.assertIs(stirs(web), due != ())
                    self.assertIs(stirs(web), has_free_row(web))

    def test_all_are_granted(self):
        chance = random.Random(11)
        for rule in ("all", "others", "own"):
            for _ in range(40):
                web = any_web(chance, rule)
                told = offers(web)
                self.assertEqual(told, tuple(sorted(set(told))))
                self.assertIs(stirs(web), told != ())
                self.assertIs(stirs(web), has_free_row(web))
                for deed in told:
                    done(web, deed)

    def test_web_is_not_changed(self):
        web = made_web(3, 1, 2, "others", ((0, 1, 0, 0, 1), (0, 2, 0, 1, 1)))
        self.assertEqual(offers(web=web), offers(web))
        self.assertEqual(stirs(web=web), stirs(web))
        self.assertEqual(web, made_web(3, 1, 2, "others", ((0, 1, 0, 0, 1), (0, 2, 0, 1, 1))))


class WalkedTest(unittest.TestCase):
    WEB = ((0, 1, 1, 0, 2), (1, 2, 2, 0, 1))
    THERE = ("carry", 0, 1, 1, 0, 2, 2, 0, 1)
    BACK = ("carry", 0, 2, 3, 0, 1, 3, 0, 1)

    def web(self):
        return made_web(3, 5, 1, "all", self.WEB)

    def test_runs(self):
        self.assertEqual(walked(self.web(), ()), self.web())
        due = ((0, 1, 1, 0, 1), (0, 2, 3, 0, 1), (1, 2, 2, 0, 1))
        self.assertEqual(walked(self.web(), (self.THERE,)).bundles, due)
        self.assertEqual(walked(self.web(), (self.THERE, self.BACK)), self.web())
        due = ((0, 2, 3, 0, 2), (1, 2, 2, 0, 1))
        self.assertEqual(walked(self.web(), (self.THERE, self.THERE)).bundles, due)
        self.assertEqual(walked(run=(self.THERE,), web=self.web()), done(self.web(), self.THERE))

    def test_frame_is_kept(self):
        web = made_web(3, 5, 2, "own", self.WEB)
        after = walked(web, (self.THERE,))
        self.assertIsInstance(after, Web)
        self.assertEqual((after.n, after.wheel, after.coats, after.rule), (3, 5, 2, "own"))
        self.assertEqual(web, made_web(3, 5, 2, "own", self.WEB))

    def test_bad_rows(self):
        web = self.web()
        for run, index in (
            ((None,), 0), (("carry",), 0), ((self.BACK,), 0), ((self.THERE, self.THERE, self.THERE), 2),
            ((self.THERE, self.BACK, None), 2), ((self.THERE, 5, "x"), 1), ((self.THERE, ((),)), 1),
            ((self.THERE, self.THERE[:8] + (0,)), 1), ((self.THERE, self.BACK) * 3 + (self.BACK,), 6),
        ):
            assert_refused(self, BadRow, index, walked, web, run)
            self.assertEqual(web, self.web())

    def test_too_many(self):
        web = self.web()
        assert_refused(self, TooMany, 100001, walked, web, (self.THERE, self.BACK) * 50000 + (None,))
        assert_refused(self, TooMany, 100002, walked, web, (None,) * 100002)
        self.assertEqual(walked(web, (self.THERE, self.BACK) * 50000), web)
        assert_refused(self, BadRow, 99999, walked, web, (self.THERE, self.BACK) * 49999 + (self.THERE, None))

    def test_many_bundles_on_the_way(self):
        """Each deed leaves a bundle more; the time must not grow with their number at each deed."""
        web = made_web(3, 10 ** 6, 1, "all", ((0, 1, 0, 0, 10 ** 9 - 2), (1, 2, 4, 0, 1), (1, 2, 5, 0, 1)))
        run = tuple(("round", 0, 1, 0, 0, 2, 5, 0, 10 ** 6 - 4, 0, 1, q) for q in range(1, 40001))
        after = walked(web, run)
        self.assertEqual(len(after.bundles), 40003)
        self.assertEqual(walked(after, turned(10 ** 6, run)), web)

    def test_one_deed_after_the_other(self):
        chance = random.Random(12)
        for rule in ("all", "others", "own"):
            for _ in range(60):
                web = any_web(chance, rule)
                run, after = any_run(chance, web, 12)
                self.assertEqual(walked(web, run), after)
                self.assertTrue(joined(web, after))
                self.assertEqual(sum(row[4] for row in web.bundles), sum(row[4] for row in after.bundles))

    def test_turned_runs_lead_back(self):
        chance = random.Random(13)
        for rule in ("all", "others", "own"):
            for _ in range(60):
                web = any_web(chance, rule)
                run, after = any_run(chance, web, 12)
                back = turned(web.wheel, run)
                self.assertEqual(walked(after, back), web)
                self.assertEqual(len(back), len(run))
                self.assertEqual(slides_of(back), slides_of(run))
                self.assertEqual(turned(web.wheel, back), run)


if __name__ == "__main__":
    unittest.main()
