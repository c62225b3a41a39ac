"""Points [0.1] to [0.5]: what holds over the whole program."""

import random
import unittest

from carriedends.arrowdeeds import arrow_run_right
from carriedends.arrowform import arrow_normal, arrow_normal_run
from carriedends.arrows import Arrows, made_arrows
from carriedends.arrowwalks import homes_run
from carriedends.bagtext import arrows_of, patches_of, text_of_arrows, text_of_patches
from carriedends.carrying import done
from carriedends.deeds import back_of, slides_of, turned
from carriedends.errors import BadPlace, NotJoined, Wide
from carriedends.floor import Floor
from carriedends.gathering import gather_run
from carriedends.heights import heights
from carriedends.judged import run_right
from carriedends.ledger import joined, ledger
from carriedends.ledgerforms import is_ledger, written
from carriedends.ledgertext import ledger_of, text_of_ledger
from carriedends.mending import mended
from carriedends.nearest import gather_count
from carriedends.nopapers import parting, parting_right
from carriedends.normal import normal
from carriedends.normalrun import normal_run, run_between
from carriedends.patchdeeds import patch_run_right
from carriedends.patches import Patches, made_patches
from carriedends.patchform import patch_normal
from carriedends.patchrun import patch_gather_count, patch_gather_run, patch_normal_run
from carriedends.runs import offers, stirs, walked
from carriedends.runtext import run_of, text_of_run
from carriedends.webs import Web, handy, made_web
from carriedends.webtext import text_of_web, web_of
from tests.helping import assert_refused, is_plain, random_web

RULES = ("all", "others", "own")


def strange_value(rng, depth):
    """Some value that is built from tuples, numbers, texts and None."""
    if depth == 0 or rng.random() < 0.4:
        return rng.choice((
            None, 0, 1, 2, 3, -1, 10 ** 50, "", "carry", "round", "free", "stuck", "one", "lot", "coat", "height", "ring", "own",
        ))
    return tuple(strange_value(rng, depth - 1) for _ in range(rng.choice((0, 1, 2, 3, 5, 7, 9, 12))))


def nested(levels):
    """A tuple that is so many levels deep."""
    found = ()
    for _ in range(levels - 1):
        found = (found,)
    return found


def webs():
    """Webs of each rule."""
    for rule in RULES:
        yield made_web(3, 6, 2, rule, ((0, 1, 0, 0, 2), (1, 2, 3, 1, 1), (0, 2, 1, 0, 1), (0, 2, 1, 1, 1)))
        yield made_web(4, 0, 1, rule, ((0, 1, 0, 0, 1), (1, 2, -3, 0, 1), (0, 2, 10 ** 11, 0, 1)))


class JudgesTest(unittest.TestCase):
    def judge_all(self, thing):
        """All judges must answer, and none may say yes to what is no right thing at all."""
        patches = made_patches(4, 3, (((0, 1, 2), 1), ((1, 2, 3), 1)))
        arrows = made_arrows(3, ((0, 1, 1), (1, 2, 2)))
        for web in webs():
            # To an equal web only the run of no deeds could lead; a web is never parted from itself.
            self.assertIs(run_right(web, thing, web), thing == ())
            self.assertIs(parting_right(web, web, thing), False)
            self.assertIs(is_ledger(web.n, web.wheel, web.coats, web.rule, thing), False)
        self.assertIs(patch_run_right(patches, thing, patches), thing == ())
        self.assertIs(arrow_run_right(arrows, thing, arrows), thing == ())

    def test_strange_values(self):
        rng = random.Random(2)
        for _ in range(2000):
            self.judge_all(strange_value(rng, 4))

    def test_deep_values(self):
        deep = nested(100)
        self.judge_all(deep)
        for word in ("carry", "round", "lot", "stuck", "coat", "height", "ring", "one", "free", 0, None):
            self.judge_all((word, nested(99)))
            self.judge_all(((word, nested(98)),))
            self.judge_all((word, nested(99), 2, (0, 0, 0), "own", nested(99)))
        row = ("free", (0, 1, 2), (1, 1), 0, 6, None, (0, 0, 0))
        for at in range(7):
            self.judge_all((row[:at] + (nested(97),) + row[at + 1:],))
        self.judge_all((((0, 1, 2), 2, 3, (1, 2, nested(96)), 1),))

    def test_wide_values(self):
        # A run may have 2 * 10 ** 6 parts, of which shared ones count as often as they stand there.
        row = (None,) * 19
        self.judge_all((row,) * 100000)
        self.judge_all((("carry",) + (1,) * 18,) * 100000)
        self.judge_all(((),) * 100001)
        self.judge_all((0,) * 2 * 10 ** 6)
        for word in ("one", "stuck", "free", "lot", "height"):
            self.judge_all(((word, (0, 1, 2), (0,) * 9000),))
            self.judge_all((word, (0, 1, 2), 0, (0,) * 9000))

    def test_things_that_differ_in_their_frame(self):
        web = made_web(3, 6, 2, "all", ((0, 1, 0, 0, 1), (1, 2, 0, 0, 1)))
        for n, wheel, coats, rule in ((4, 6, 2, "all"), (3, 12, 2, "all"), (3, 6, 3, "all"), (3, 6, 2, "others")):
            other = made_web(n, wheel, coats, rule, web.bundles)
            self.assertIs(run_right(web, (), other), False)
            self.assertIs(parting_right(web, other, ("lot", (0, 1, 2))), False)
        self.assertIs(patch_run_right(made_patches(4, 3, ()), (), made_patches(4, 2, ())), False)
        self.assertIs(arrow_run_right(made_arrows(4, ()), (), made_arrows(3, ())), False)


class LotArgumentsTest(unittest.TestCase):
    def test_any_value_is_refused(self):
        rng = random.Random(3)
        web = made_web(4, 6, 1, "all", ((0, 1, 0, 0, 1), (1, 2, 0, 0, 1)))
        arrows = made_arrows(4, ((0, 1, 1), (1, 2, 1)))
        patches = made_patches(4, 3, (((0, 1, 2), 1),))
        values = [strange_value(rng, 3) for _ in range(300)] + [nested(100), (0, 1), (0, 2, 1), (0, 1, 2, 3), "012", (3, 3)]
        for lot in values:
            if lot in ((0, 1, 2), (3,)):
                continue
            for call, given in (
                (heights, web), (gather_run, web), (gather_count, web), (homes_run, arrows), (patch_gather_count, patches),
                (patch_gather_run, patches),
            ):
                assert_refused(self, BadPlace, 0, call, given, lot)


class LimitsTest(unittest.TestCase):
    def greatest(self, rng, rule):
        """A web at the bounds of what can be handed in."""
        wheel = rng.choice((0, 10 ** 6))
        bundles = [(at, at + 1, rng.choice((0, wheel - 1) if wheel else (10 ** 12 - 1, 1 - 10 ** 12)), at % 4, 1) for at in range(19)]
        for _ in range(10):
            u, v = sorted(rng.sample(range(20), 2))
            bundles.append((u, v, rng.randrange(wheel) if wheel else rng.randint(1 - 10 ** 12, 10 ** 12 - 1), rng.randrange(4), 1))
        bundles.append((0, 19, 7, 0, 10 ** 9 - 29))
        return made_web(20, wheel, 4, rule, tuple(bundles))

    def test_greatest_webs(self):
        rng = random.Random(4)
        for rule in RULES:
            for _ in range(3):
                web = self.greatest(rng, rule)
                self.assertTrue(handy(web))
                run = normal_run(web)
                self.assertLessEqual(len(run), 40000)
                self.assertIs(run_right(web, run, normal(web)), True)
                self.assertEqual(run_of(text_of_run(run)), run)
                self.assertEqual(web_of(text_of_web(web)), web)
                self.assertEqual(written(20, web.wheel, 4, rule, ledger(web)), normal(web))

    def test_deeds_have_no_bounds_of_size(self):
        web = made_web(3, 0, 1, "all", ((0, 1, 5, 0, 10 ** 9 - 2), (1, 2, 10 ** 12 - 1, 0, 1), (1, 2, 0, 0, 1)))
        q, length = 10 ** 40 - 1, 5
        for _ in range(3):
            web = done(web, ("round", 0, 1, length, 0, 2, 10 ** 12 - 1, 0, 0, 0, 10 ** 9 - 2, q))
            length += q * (10 ** 12 - 1)
        web = done(web, ("carry", 0, 1, length, 0, 2, 0, 0, 10 ** 9 - 3))
        self.assertEqual(web.bundles, (
            (0, 1, length, 0, 1), (0, 2, length, 0, 10 ** 9 - 3), (1, 2, 0, 0, 1), (1, 2, 10 ** 12 - 1, 0, 1),
        ))
        self.assertFalse(handy(web))
        assert_refused(self, Wide, 0, normal_run, web)
        self.assertEqual(heights(web, (0, 1, 2)), (10 ** 12 - 1, (0, length % (10 ** 12 - 1), length % (10 ** 12 - 1))))

    def test_wide_things(self):
        lengths = Web(3, 0, 1, "all", ((0, 1, 10 ** 12, 0, 1), (1, 2, 0, 0, 1)))
        bundles = Web(3, 40, 1, "all", tuple((0, 1, length, 0, 1) for length in range(30)) + ((1, 2, 0, 0, 1),))
        counts = Web(3, 0, 2, "all", ((0, 1, 0, 0, 10 ** 9), (1, 2, 0, 1, 1)))
        for web in (lengths, bundles, counts):
            good = made_web(web.n, web.wheel, web.coats, web.rule, ())
            assert_refused(self, Wide, 0, gather_run, web, None)
            assert_refused(self, Wide, 0, normal_run, web)
            assert_refused(self, Wide, 0, run_between, web, web)
            assert_refused(self, Wide, 1, run_between, good, web)
            assert_refused(self, Wide, 0, mended, web, (), web)
            assert_refused(self, Wide, 1, mended, good, (None,), web)
            assert_refused(self, Wide, 0, text_of_web, web)
            # All else is told of them, too.
            self.assertEqual(ledger(normal(web)), ledger(web))
            self.assertIs(stirs(web), True)
            self.assertIs(joined(web, normal(web)), True)
            self.assertIs(parting_right(web, good, parting(web, good)), True)


class WhatHoldsTest(unittest.TestCase):
    def test_webs_from_text_to_text(self):
        rng = random.Random(5)
        for _ in range(150):
            rule = rng.choice(RULES)
            web = random_web(
                rng, n=rng.randint(2, 8), wheel=rng.choice((0, 0, 1, 2, 12)), coats=rng.randint(1, 3), rule=rule,
                bundles=rng.randint(0, 10),
            )
            floor = Floor(web)
            for _ in range(6):
                there = offers(floor.web())
                if there:
                    deed = rng.choice(there)
                    self.assertEqual(done(done(floor.web(), deed), back_of(web.wheel, deed)), floor.web())
                    _, u, v, length, coat, w, rail, railcoat, j = deed
                    floor.carry(u, v, length, coat, w, rail, railcoat, j=j)
            here, run = floor.web(), floor.record()
            self.assertTrue(is_plain(run, False))
            self.assertEqual(walked(web, run_of(text_of_run(run))), here)
            self.assertEqual(walked(here, turned(web.wheel, run)), web)
            self.assertEqual(slides_of(turned(web.wheel, run)), slides_of(run))
            self.assertIs(joined(here, web), True)
            table = ledger_of(rule, text_of_ledger(rule, ledger(here)))
            self.assertEqual(written(web.n, web.wheel, web.coats, rule, table), normal(web))
            if handy(normal(web)):
                self.assertIs(run_right(web, run_between(web, normal(web)), normal(web)), True)
            assert_refused(self, NotJoined, 1, parting, here, web)

    def test_bags_from_text_to_text(self):
        patches = made_patches(6, 3, (((0, 1, 2), 2), ((2, 3, 4), 1), ((3, 4, 5), 7)))
        self.assertIs(patch_run_right(patches_of(text_of_patches(patches)), patch_normal_run(patches), patch_normal(patches)), True)
        arrows = made_arrows(6, ((0, 1, 2), (2, 1, 5), (3, 2, 1), (3, 4, 1), (4, 5, 3)))
        self.assertIs(arrow_run_right(arrows_of(text_of_arrows(arrows)), arrow_normal_run(arrows), arrow_normal(arrows)), True)
        self.assertIs(type(patches), Patches)
        self.assertIs(type(arrows), Arrows)

    def test_the_same_for_the_same_arguments(self):
        rng = random.Random(6)
        for rule in RULES:
            web = random_web(rng, n=6, wheel=0, coats=2, rule=rule, bundles=9)
            again = made_web(6, 0, 2, rule, tuple(reversed(web.bundles)))
            for call in (normal_run, normal, ledger, offers, text_of_web):
                self.assertEqual(call(web), call(again))
            self.assertEqual(web, again)


if __name__ == "__main__":
    unittest.main()
