"""Point [20]: one corner that is carried, runs of patches."""

import random
import unittest

from carriedends.errors import BadDeed, BadRow, TooMany
from carriedends.patchdeeds import (
    patch_done, patch_offers, patch_run_right, patch_slides, patch_turned, patch_walked,
)
from carriedends.patches import Patches, made_patches
from carriedends.patchlots import patch_joined
from tests.helping import assert_refused, assert_same
from tests.plainpatches import all_patch_bags, bagged, patch_slid

DEED = ((2, 3, 4), 2, 0, (0, 1, 2), 1)
BACK = ((0, 3, 4), 0, 2, (0, 1, 2), 1)


def start(*, many=1):
    return made_patches(5, 3, (((0, 1, 2), 1), ((2, 3, 4), many)))


def end():
    return made_patches(5, 3, (((0, 1, 2), 1), ((0, 3, 4), 1)))


class DoneTest(unittest.TestCase):
    def test_example(self):
        found = patch_done(start(), DEED)
        self.assertIs(type(found), Patches)
        self.assertEqual((found.n, found.k), (5, 3))
        assert_same(self, found.bundles, (((0, 1, 2), 1), ((0, 3, 4), 1)))
        self.assertEqual(patch_done(deed=BACK, patches=found), start())

    def test_several_at_once(self):
        web = start(many=10 ** 8)
        for j, bundles in (
            (10 ** 8, (((0, 1, 2), 1), ((0, 3, 4), 10 ** 8))),
            (7, (((0, 1, 2), 1), ((0, 3, 4), 7), ((2, 3, 4), 10 ** 8 - 7))),
        ):
            assert_same(self, patch_done(web, DEED[:4] + (j,)).bundles, bundles)
        self.assertEqual(web, start(many=10 ** 8))
        # The carried patches come to others that are there already.
        web = made_patches(5, 3, (((0, 1, 2), 4), ((0, 3, 4), 2), ((2, 3, 4), 3)))
        assert_same(self, patch_done(web, DEED).bundles, (((0, 1, 2), 4), ((0, 3, 4), 3), ((2, 3, 4), 2)))

    def test_rail_with_more_corners_in_common(self):
        web = made_patches(4, 3, (((0, 1, 2), 1), ((0, 1, 3), 1)))
        assert_same(self, patch_done(web, ((0, 1, 2), 0, 3, (0, 1, 3), 1)).bundles, (((0, 1, 3), 1), ((1, 2, 3), 1)))

    def assert_faults(self, web, code, *deeds):
        for deed in deeds:
            assert_refused(self, BadDeed, code, patch_done, web, deed)

    def test_deeds_of_a_wrong_form(self):
        corners, v, w, rail, j = DEED
        self.assert_faults(
            start(), 0, None, 0, "carry", (), DEED[:4], DEED + (1,), (None, v, w, rail, j), (2, v, w, rail, j),
            ("234", v, w, rail, j), ((2, 3, "4"), v, w, rail, j), ((2, 3, None), v, w, rail, j),
            ((2, 3, (4,)), v, w, rail, j), (corners, None, w, rail, j), (corners, (v,), w, rail, j),
            (corners, v, "0", rail, j), (corners, v, w, None, j), (corners, v, w, 0, j), (corners, v, w, (0, 1, "2"), j),
            (corners, v, w, rail, None), (corners, v, w, rail, (1,)), (corners, v, w, rail, 0),
            (corners, v, w, rail, -1), ((), None, w, (), 1), ((4, 3, 2), 9, 9, (2, 1, 0), 0),
            (corners, v, w, (0, 1, "2"), 5), ((1, 3, 4), 2, 0, rail, 0),
        )

    def test_corners_and_places(self):
        corners, v, w, rail, j = DEED
        self.assert_faults(
            start(), 1, ((2, 4, 3), v, w, rail, j), ((2, 3), v, w, rail, j), ((), v, w, rail, j),
            ((2, 3, 4, 5), v, w, rail, j), ((2, 2, 4), v, w, rail, j), ((2, 3, 5), v, w, rail, j),
            ((-1, 2, 3), v, w, rail, j), (corners, v, w, (2, 1, 0), j), (corners, v, w, (0, 2), j),
            (corners, v, w, (), j), (corners, v, w, (0, 2, 5), j), (corners, v, w, (-1, 0, 2), j),
            (corners, v, w, (0, 2, 2), j), (corners, 1, w, rail, j), (corners, 0, w, rail, j), (corners, -1, w, rail, j),
            (corners, 10 ** 30, w, rail, j), (corners, v, 5, rail, j), (corners, v, -1, rail, j),
            (corners, v, 3, rail, j), (corners, v, v, rail, j), (corners, v, 3, (2, 1, 0), 10 ** 50),
            ((0, 1, 3), 2, 4, rail, 10 ** 50),
        )

    def test_too_few_patches(self):
        self.assert_faults(
            start(), 2, DEED[:4] + (2,), DEED[:4] + (10 ** 50,), ((1, 3, 4), 1, 0, (0, 1, 2), 1),
            ((1, 3, 4), 1, 0, (0, 2, 3), 1), ((2, 3, 4), 2, 0, (0, 1, 4), 2),
        )
        self.assert_faults(start(many=6), 2, DEED[:4] + (7,))

    def test_no_such_rail(self):
        self.assert_faults(
            start(), 3, ((2, 3, 4), 2, 0, (0, 2, 3), 1), ((2, 3, 4), 3, 0, (0, 1, 2), 1),
            ((0, 1, 2), 0, 3, (2, 3, 4), 1), ((0, 1, 2), 2, 3, (0, 1, 2), 1), ((2, 3, 4), 2, 0, (2, 3, 4), 1),
        )
        # w is none of the rail's corners.
        web = made_patches(6, 3, (((0, 1, 2), 1), ((2, 3, 4), 1), ((4, 5, 0), 1))[:2])
        self.assert_faults(web, 3, ((2, 3, 4), 2, 5, (0, 1, 2), 1))


class OffersTest(unittest.TestCase):
    def test_example(self):
        assert_same(self, patch_offers(start()), (
            ((0, 1, 2), 2, 3, (2, 3, 4), 1), ((0, 1, 2), 2, 4, (2, 3, 4), 1),
            ((2, 3, 4), 2, 0, (0, 1, 2), 1), ((2, 3, 4), 2, 1, (0, 1, 2), 1),
        ))
        assert_same(self, patch_offers(patches=start(many=10 ** 8)), patch_offers(start()))

    def test_nothing_to_offer(self):
        for web in (made_patches(5, 3, ()), made_patches(5, 3, (((0, 1, 2), 9),)), made_patches(2, 2, (((0, 1), 9),)),
                    made_patches(6, 3, (((0, 1, 2), 9), ((3, 4, 5), 1)))):
            assert_same(self, patch_offers(web), ())

    def test_all_small_bags(self):
        for n, k, count in ((4, 2, 3), (4, 3, 3), (5, 3, 2), (5, 4, 2), (3, 2, 4)):
            for patches in all_patch_bags(n, k, count):
                web = bagged(n, k, patches)
                found = patch_offers(web)
                plain = {slide + (1,): after for after, slide in patch_slid(patches)}
                self.assertEqual(found, tuple(sorted(plain)))
                for deed in found:
                    self.assertEqual(patch_done(web, deed), bagged(n, k, plain[deed]))

    def test_offers_are_all_that_is_granted(self):
        web = made_patches(4, 2, (((0, 1), 2), ((1, 2), 1)))
        pairs = [(u, v) for u in range(4) for v in range(u + 1, 4)]
        granted = []
        for deed in [(corners, v, w, rail, 1) for corners in pairs for v in range(4) for w in range(4) for rail in pairs]:
            try:
                patch_done(web, deed)
            except BadDeed:
                continue
            granted.append(deed)
        assert_same(self, patch_offers(web), tuple(granted))


class RunsTest(unittest.TestCase):
    def test_walked(self):
        self.assertEqual(patch_walked(start(), ()), start())
        self.assertEqual(patch_walked(start(), (DEED,)), end())
        self.assertEqual(patch_walked(run=(DEED, BACK), patches=start()), start())

    def test_refused_rows(self):
        for run, index in (
            ((BACK,), 0), ((DEED, DEED), 1), ((DEED, BACK, None, DEED), 2), ((None, None), 0), ((DEED, BACK, DEED, 0), 3),
        ):
            assert_refused(self, BadRow, index, patch_walked, start(), run)
            self.assertIs(patch_run_right(start(), run, start()), False)
            self.assertIs(patch_run_right(start(), run, end()), False)

    def test_long_runs(self):
        run = (DEED, BACK) * 50000
        self.assertEqual(patch_walked(start(), run), start())
        self.assertIs(patch_run_right(start(), run, start()), True)
        assert_refused(self, TooMany, 100001, patch_walked, start(), run + (DEED,))
        assert_refused(self, TooMany, 100001, patch_walked, start(), (None,) * 100001)
        self.assertIs(patch_run_right(start(), run + (DEED,), end()), False)
        self.assertIs(patch_run_right(start(), run[1:], end()), False)
        self.assertIs(patch_run_right(start(), run[:-1], end()), True)

    def test_run_right(self):
        for run, goal, due in (
            ((), start(), True), ((), end(), False), ((DEED,), end(), True), ((DEED,), start(), False),
            ((DEED, BACK), start(), True), ((DEED, None), end(), False), ((DEED,), made_patches(6, 3, end().bundles), False),
            ((DEED,), Patches(5, 4, end().bundles), False), ((), made_patches(5, 2, ()), False),
        ):
            self.assertIs(patch_run_right(start(), run, goal), due)
        self.assertIs(patch_run_right(goal=end(), run=(DEED,), patches=start()), True)

    def test_run_right_of_any_values(self):
        deep = ()
        for _ in range(99):
            deep = (deep,)
        for run in (None, 0, "", "carry", DEED, deep, (deep,), (DEED, deep), ("",), (None,), ((),), (0, 1), (DEED[:4],)):
            self.assertIs(patch_run_right(start(), run, start()), False)
            self.assertIs(patch_run_right(start(), run, end()), False)

    def test_turned_and_slides(self):
        assert_same(self, patch_turned((DEED,)), (((0, 3, 4), 0, 2, (0, 1, 2), 1),))
        assert_same(self, patch_turned(run=()), ())
        assert_same(self, patch_slides(run=()), 0)
        run = (((0, 1), 1, 3, (1, 3), 4), ((2, 3), 2, 1, (1, 2), 10 ** 30))
        assert_same(self, patch_turned(run), (((1, 3), 1, 2, (1, 2), 10 ** 30), ((0, 3), 3, 1, (1, 3), 4)))
        assert_same(self, patch_slides(run), 10 ** 30 + 4)

    def test_random_runs_are_turned(self):
        rng = random.Random(20)
        for _ in range(100):
            n, k = rng.randint(3, 11), rng.randint(2, 4)
            bundles = tuple(
                (tuple(sorted(rng.sample(range(n), k))), rng.randint(1, 5)) for _ in range(rng.randint(0, 8)) if k <= n
            )
            first = web = made_patches(n, k, bundles)
            run = []
            for _ in range(rng.randint(0, 12)):
                there = patch_offers(web)
                if there:
                    deed = rng.choice(there)
                    deed = deed[:4] + (rng.randint(1, dict(web.bundles)[deed[0]]),)
                    run.append(deed)
                    web = patch_done(web, deed)
            run = tuple(run)
            self.assertEqual(patch_walked(first, run), web)
            self.assertIs(patch_run_right(first, run, web), True)
            self.assertEqual(patch_walked(web, patch_turned(run)), first)
            self.assertEqual(patch_turned(patch_turned(run)), run)
            self.assertEqual(patch_slides(patch_turned(run)), patch_slides(run))
            self.assertTrue(patch_joined(first, web))


if __name__ == "__main__":
    unittest.main()
