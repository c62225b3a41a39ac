"""Point [15]: runs mended."""

import random
import unittest

from carriedends.carrying import done
from carriedends.errors import BadDeed, NotJoined, TooMany, Unlike, Wide
from carriedends.judged import run_right
from carriedends.mending import mended
from carriedends.runs import offers, walked
from carriedends.webs import Web, handy, made_web
from tests.helping import assert_refused, random_web

THERE = ("carry", 0, 1, 1, 0, 2, 2, 1, 1)
BACK = ("carry", 0, 2, 3, 0, 1, 3, 1, 1)
ROUND = ("round", 0, 1, 1, 0, 2, 2, 1, 3, 1, 2, 4)


def start():
    return made_web(3, 5, 2, "others", ((0, 1, 1, 0, 2), (1, 2, 2, 1, 1)))


def kept_deeds(web, run):
    """The deeds that are done, tried one by one, and the web that they lead to."""
    kept = []
    for deed in run:
        try:
            web = done(web, deed)
        except BadDeed:
            continue
        kept.append(deed)
    return (tuple(kept), web)


def spoiled(rng, deed):
    """A deed of which one part is another one."""
    at = rng.randrange(len(deed))
    return deed[:at] + (rng.choice((0, 1, 2, 3, -1, None, "carry")),) + deed[at + 1:]


class MendedTest(unittest.TestCase):
    def assert_mends(self, web, run, goal):
        bundles = (web.bundles, goal.bundles)
        found = mended(web, run, goal)
        self.assertEqual((web.bundles, goal.bundles), bundles)
        self.assertIs(type(found), tuple)
        self.assertLessEqual(len(found), 85000)
        kept, come_to = kept_deeds(web, run)
        self.assertEqual(found[:len(kept)], kept)
        self.assertIs(run_right(web, found, goal), True)
        if come_to == goal:
            self.assertEqual(found, kept)
        return found

    def test_runs_that_need_no_mending(self):
        self.assertEqual(mended(start(), (), start()), ())
        self.assertEqual(mended(start(), (THERE, BACK, THERE), done(start(), THERE)), (THERE, BACK, THERE))
        self.assertEqual(mended(goal=start(), run=(ROUND,), web=start()), (ROUND,))

    def test_refused_deeds_are_left_out(self):
        goal = walked(start(), (THERE, THERE))
        for run, kept in (
            ((BACK, THERE), (THERE,)), ((THERE, None, THERE, THERE), (THERE, THERE)), ((BACK, BACK), ()),
            ((THERE, BACK[:8] + (2,), BACK), (THERE, BACK)), ((ROUND, THERE, ROUND, BACK), (ROUND, THERE, BACK)),
            ((0, "", (), THERE[:8], BACK), ()),
        ):
            found = self.assert_mends(start(), run, goal)
            self.assertEqual(found[:len(kept)], kept)

    def test_each_deed_is_looked_at_once(self):
        # The first deed would be granted after the second one, but then it is past.
        found = self.assert_mends(start(), (BACK, THERE), walked(start(), (THERE,)))
        self.assertEqual(found, (THERE,))

    def test_random_runs(self):
        rng = random.Random(15)
        for _ in range(150):
            web = random_web(
                rng, n=rng.choice((3, 4, 6)), wheel=rng.choice((0, 1, 2, 6, 360)), coats=rng.randint(1, 3),
                rule=rng.choice(("all", "others", "own")), bundles=rng.randint(2, 10),
            )
            run, there = [], web
            for _ in range(rng.randint(0, 8)):
                free = offers(there)
                if free:
                    deed = rng.choice(free)
                    there = done(there, deed)
                    run.append(deed if rng.random() < 0.7 else spoiled(rng, deed))
            if handy(there) and handy(kept_deeds(web, run)[1]):
                self.assert_mends(web, tuple(run), there)

    def test_limit_of_deeds(self):
        self.assertEqual(mended(start(), (THERE, BACK) * 2500, start()), (THERE, BACK) * 2500)
        self.assertEqual(mended(start(), (None,) * 5000, start()), ())
        assert_refused(self, TooMany, 5001, mended, start(), (THERE, BACK) * 2500 + (None,), start())
        assert_refused(self, TooMany, 5001, mended, start(), (None,) * 5001, made_web(1, 0, 1, "all", ()))

    def test_unlike_webs(self):
        for name, goal in (
            ("n", Web(4, 6, 1, "own", ())), ("wheel", Web(3, 6, 1, "own", ())), ("coats", Web(3, 5, 1, "own", ())),
            ("rule", Web(3, 5, 2, "own", ())),
        ):
            assert_refused(self, Unlike, name, mended, start(), (THERE, None), goal)

    def test_wide_webs_and_webs_that_are_not_joined(self):
        far = 10 ** 12 - 1
        web = made_web(3, 0, 1, "all", ((0, 1, far, 0, 1), (1, 2, 1, 0, 1)))
        out = ("carry", 0, 1, far, 0, 2, 1, 0, 1)
        wide = done(web, out)
        self.assertFalse(handy(wide))
        other = made_web(3, 0, 1, "all", ((0, 1, 1, 0, 1), (1, 2, 1, 0, 1)))
        # The web that is come to counts, not the one that is handed in.
        assert_refused(self, Wide, 0, mended, web, (out,), web)
        assert_refused(self, Wide, 0, mended, web, (out,), wide)
        assert_refused(self, Wide, 0, mended, web, (out,), other)
        back = ("carry", 0, 2, far + 1, 0, 1, -1, 0, 1)
        self.assertEqual(mended(wide, (back,), web), (back,))
        self.assertEqual(mended(web, (out, back), web), (out, back))
        assert_refused(self, Wide, 0, mended, wide, (), web)
        assert_refused(self, Wide, 1, mended, web, (), wide)
        assert_refused(self, Wide, 1, mended, other, (None,), wide)
        assert_refused(self, NotJoined, 0, mended, web, (None,), other)
        self.assertEqual(mended(web, (None,), web), ())


if __name__ == "__main__":
    unittest.main()
