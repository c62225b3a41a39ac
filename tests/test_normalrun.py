"""Point [13]: runs to normal forms and between joined webs."""

import random
import unittest

from carriedends.errors import NotJoined, Unlike, Wide
from carriedends.judged import run_right
from carriedends.ledger import joined
from carriedends.normal import normal
from carriedends.normalrun import normal_run, run_between
from carriedends.runs import offers, walked
from carriedends.webs import Web, handy, made_web
from tests.helping import assert_refused, is_plain, random_web
from tests.plainly import classes, webbed

SMALL = (
    (3, 5, 1, "all", 3), (3, 4, 1, "all", 4), (3, 2, 2, "all", 3), (4, 2, 1, "all", 3),
    (3, 2, 2, "others", 3), (3, 1, 2, "others", 4), (3, 1, 3, "others", 4), (4, 1, 2, "others", 3),
    (3, 2, 2, "own", 3), (4, 1, 2, "own", 3),
)
FIBONACCI = [1, 2]
while FIBONACCI[-1] + FIBONACCI[-2] < 10 ** 12:
    FIBONACCI.append(FIBONACCI[-1] + FIBONACCI[-2])


def strayed(rng, web, deeds):
    """A web that some slides lead to."""
    for _ in range(deeds):
        there = offers(web)
        if there:
            web = walked(web, (rng.choice(there),))
    return web


class RunsTest(unittest.TestCase):
    def assert_run(self, web, run, goal, most):
        self.assertIs(type(run), tuple)
        self.assertTrue(is_plain(run, False))
        self.assertLessEqual(len(run), most)
        for deed in run:
            for part in deed[1:]:
                self.assertLess(abs(part), 10 ** 40)
        self.assertIs(run_right(web, run, goal), True, (web.rule, web.wheel, web.coats, web.bundles, goal.bundles))

    def assert_normal_run(self, web):
        bundles = web.bundles
        run = normal_run(web)
        self.assertEqual(web.bundles, bundles)
        self.assert_run(web, run, normal(web), 40000)
        return run


class NormalRunTest(RunsTest):
    def test_examples(self):
        path = made_web(4, 1, 1, "all", ((0, 1, 0, 0, 1), (1, 2, 0, 0, 1), (2, 3, 0, 0, 1)))
        ring = made_web(3, 5, 1, "all", ((0, 1, 0, 0, 1), (1, 2, 0, 0, 1), (0, 2, 1, 0, 1)))
        more = made_web(3, 5, 1, "all", ((0, 1, 0, 0, 2), (1, 2, 0, 0, 1), (0, 2, 1, 0, 1)))
        coats = made_web(3, 0, 2, "others", ((0, 1, 5, 1, 1), (1, 2, -2, 0, 1)))
        crowd = made_web(3, 7, 2, "others", ((0, 1, 0, 0, 1), (0, 2, 0, 1, 1), (0, 2, 3, 1, 10 ** 8)))
        for web in (path, ring, more, coats, crowd):
            self.assert_normal_run(web)
        self.assertEqual(normal_run(web=path), normal_run(path))

    def test_normal_already(self):
        self.assertEqual(normal_run(made_web(5, 3, 2, "all", ())), ())
        self.assertEqual(normal_run(made_web(5, 3, 2, "own", ((0, 1, 2, 0, 5), (0, 1, 1, 1, 5)))), ())

    def test_all_small_webs(self):
        for n, wheel, coats, rule, count in SMALL:
            with self.subTest(n=n, wheel=wheel, coats=coats, rule=rule, count=count):
                for together in classes(n, wheel, coats, rule, count):
                    for threads in together:
                        web = webbed(n, wheel, coats, rule, threads)
                        self.assertIs(run_right(web, normal_run(web), normal(web)), True, web.bundles)

    def test_random_webs(self):
        rng = random.Random(13)
        for _ in range(700):
            self.assert_normal_run(random_web(
                rng, n=rng.choice((3, 3, 4, 5, 8, 20)), coats=rng.randint(1, 4), bundles=rng.randint(0, 30),
                wheel=rng.choice((0, 0, 1, 2, 3, 4, 6, 30, 360, 720720, 999983, 10 ** 6)),
                rule=rng.choice(("all", "others", "own")), counts=(1, 1, 1, 2, 3, 10 ** 7, 33333333),
            ))

    def test_no_spare_and_one_spare(self):
        rng = random.Random(131)
        for _ in range(600):
            n = rng.randint(3, 8)
            wheel = rng.choice((0, 1, 2, 5, 6, 12, 30, 1000, 10 ** 6))
            coats = rng.randint(1, 4)
            places = list(range(n))
            rng.shuffle(places)
            pairs = [(places[at], rng.choice(places[:at])) for at in range(1, n)]
            if rng.random() < 0.8:
                pairs.append(tuple(rng.sample(range(n), 2)) if rng.random() < 0.8 else pairs[0])
            bound = rng.choice((1, 6, 10 ** 12)) if wheel == 0 else wheel
            bundles = tuple(
                (min(pair), max(pair), rng.randrange(bound), rng.randrange(coats), 1) for pair in pairs
            )
            for rule in ("all", "others"):
                self.assert_normal_run(made_web(n, wheel, coats, rule, bundles))

    def test_counts_are_not_led_one_by_one(self):
        most = 10 ** 9
        for rule, wheel in (("all", 7), ("others", 7), ("all", 0), ("others", 0), ("others", 1), ("own", 10 ** 6)):
            for bundles in (
                ((0, 1, 0, 0, most - 3), (0, 2, 0, 1, 1), (1, 2, 0, 0, 1), (2, 3, 0, 0, 1)),
                ((0, 1, 0, 0, 1), (0, 2, 0, 1, 1), (1, 2, 0, 0, most - 3), (2, 3, 0, 0, 1)),
                tuple((at % 3, 3, 0, at // 3 % 2, 10 ** 8) for at in range(6)) + ((0, 2, 0, 1, 4 * 10 ** 8),),
            ):
                run = self.assert_normal_run(made_web(4, wheel, 2, rule, bundles))
                self.assertLess(len(run), 300)

    def test_one_coat_that_few_threads_have(self):
        # All threads but one have the coat 0; the other one lies far from the least place, or among many others.
        for last in ((18, 19, 5, 1, 1), (0, 1, 5, 1, 1), (0, 19, 0, 1, 1)):
            bundles = tuple((place, place + 1, 7 * place % 10, 0, 10 ** 7 + place) for place in range(19)) + (last,)
            for wheel in (0, 10, 999999):
                self.assert_normal_run(made_web(20, wheel, 2, "others", bundles))
        bundles = tuple((0, 1 + at % 2, at * at, 0, 10 ** 7) for at in range(29)) + ((0, 1, 6, 1, 1),)
        for wheel in (0, 1000, 10 ** 6):
            self.assert_normal_run(made_web(3, wheel, 2, "others", bundles))

    def test_great_lengths(self):
        far = 10 ** 12 - 1
        for rule in ("all", "others"):
            bundles = tuple(
                (place, place + 1, far if place % 2 else -far, place % 2, 10 ** 7) for place in range(19)
            ) + tuple((place, place + 1, far - place, place % 3 % 2, 3) for place in range(11))
            self.assert_normal_run(made_web(20, 0, 2, rule, bundles))
            chain = tuple((place, place + 1, far, place % 2, 1) for place in range(19))
            self.assert_normal_run(made_web(20, 0, 2, rule, chain))
            ring = chain + ((0, 19, -far, 0, 1),)
            self.assert_normal_run(made_web(20, 0, 2, rule, ring))
            # Numbers for which Euclid's divisions are as many as they can be.
            slow = tuple((0, 1 + at % 2, FIBONACCI[-1 - at], at % 2, 1) for at in range(30))
            self.assert_normal_run(made_web(3, 0, 2, rule, slow))

    def test_own_is_led_coat_by_coat(self):
        rng = random.Random(132)
        for _ in range(150):
            web = random_web(
                rng, n=rng.randint(3, 6), wheel=rng.choice((0, 4, 12)), coats=4, rule="own", bundles=30,
            )
            self.assert_normal_run(web)

    def test_webs_that_are_just_handy_and_that_are_not(self):
        far = 10 ** 12 - 1
        just = made_web(3, 0, 1, "all", ((0, 1, far, 0, 10 ** 9 - 1), (1, 2, -far, 0, 1)))
        self.assert_normal_run(just)
        for bundles in (
            ((0, 1, far + 1, 0, 1), (1, 2, 0, 0, 1)),
            ((0, 1, 0, 0, 1), (1, 2, -far - 1, 0, 1)),
            ((0, 1, far, 0, 10 ** 9), (1, 2, 0, 0, 1)),
            tuple((0, 1, length, 0, 1) for length in range(31)),
        ):
            web = Web(3, 0, 1, "all", bundles)
            assert_refused(self, Wide, 0, normal_run, web)
        self.assert_normal_run(Web(3, 0, 1, "all", tuple((0, 1, length, 0, 1) for length in range(30))))


class RunBetweenTest(RunsTest):
    def test_all_pairs_of_small_classes(self):
        for n, wheel, coats, rule, count in ((3, 2, 1, "all", 3), (3, 1, 2, "others", 3), (3, 1, 2, "own", 3)):
            webs = [
                (webbed(n, wheel, coats, rule, threads), index)
                for index, together in enumerate(classes(n, wheel, coats, rule, count)) for threads in together
            ]
            for one, at in webs:
                for other, there in webs:
                    if at != there:
                        assert_refused(self, NotJoined, 0, run_between, one, other)
                    else:
                        run = run_between(one, other)
                        self.assertIs(run_right(one, run, other), True)
                        if one == other:
                            self.assertEqual(run, ())

    def test_random_webs(self):
        rng = random.Random(133)
        for _ in range(250):
            one = random_web(
                rng, n=rng.choice((3, 4, 6, 20)), wheel=rng.choice((0, 1, 6, 360, 10 ** 6)), coats=rng.randint(1, 3),
                rule=rng.choice(("all", "others", "own")), bundles=rng.randint(1, 20),
            )
            other = strayed(rng, one, rng.randint(0, 6))
            if handy(other):
                self.assert_run(one, run_between(one, other), other, 80000)
                self.assert_run(other, run_between(other=one, one=other), one, 80000)

    def test_equal_webs(self):
        web = made_web(4, 1, 1, "all", ((0, 1, 0, 0, 1), (1, 2, 0, 0, 1), (2, 3, 0, 0, 1)))
        again = made_web(4, 1, 1, "all", ((2, 3, 0, 0, 1), (0, 1, 0, 0, 1), (1, 2, 0, 0, 1)))
        self.assertEqual(run_between(web, again), ())

    def test_errors_one_after_the_other(self):
        far = 10 ** 12
        frame = {"n": 3, "wheel": 0, "coats": 2, "rule": "all", "bundles": ((0, 1, far, 0, 1), (1, 2, 0, 0, 1))}
        wide = Web(**frame)
        for name, worth in (("n", 4), ("wheel", 1), ("coats", 1), ("rule", "own")):
            other = Web(**{**frame, name: worth})
            assert_refused(self, Unlike, name, run_between, wide, other)
            assert_refused(self, Unlike, name, run_between, other, wide)
        assert_refused(self, Unlike, "n", run_between, wide, Web(4, 1, 1, "own", ()))
        assert_refused(self, Unlike, "wheel", run_between, wide, Web(3, 1, 1, "own", ()))
        assert_refused(self, Unlike, "coats", run_between, wide, Web(3, 0, 1, "own", ()))
        near = made_web(3, 0, 2, "all", ((0, 1, 0, 0, 1), (1, 2, 0, 0, 1)))
        assert_refused(self, Wide, 0, run_between, wide, near)
        assert_refused(self, Wide, 1, run_between, near, wide)
        assert_refused(self, Wide, 0, run_between, wide, wide)
        there = made_web(3, 0, 2, "all", ((0, 1, 0, 0, 1), (1, 2, 1, 0, 1)))
        assert_refused(self, NotJoined, 0, run_between, near, there)
        self.assertFalse(joined(near, there))


if __name__ == "__main__":
    unittest.main()
