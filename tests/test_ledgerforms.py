"""Point [30]: which things are ledgers, and the webs that are written of them."""

import random
import unittest

from carriedends.errors import BadCoats, BadLedger, BadRule, BadSize, BadWheel
from carriedends.ledger import ledger
from carriedends.ledgerforms import is_ledger, written
from carriedends.normal import normal
from carriedends.normalrun import normal_run
from carriedends.runs import walked
from carriedends.webs import Web, made_web
from tests.helping import assert_refused, random_web
from tests.plainly import all_bags, webbed

RULES = ("all", "others", "own")

# Three places, wheel 6, two coats.
FREE = ("free", (0, 1, 2), (2, 1), 1, 3, 3, (0, 2, 1))
ONE_SPARE = (FREE,)
TREE = (("free", (0, 2, 3), (1, 1), 0, 6, None, (0, 5, 1)), ("one", 1))
STUCK = (("stuck", (0, 1), ((0, 1, 0, 0, 2), (0, 1, 0, 1, 1), (0, 1, 5, 0, 9))), ("one", 2))


def near(thing, rng):
    """A thing that differs at one place from another one: a part is changed, left out, twice, or put elsewhere."""
    if type(thing) is int:
        return rng.choice((thing + 1, thing - 1, 0, 1, 2, -1, 3, 6, None, "", (), (thing,), str(thing)))
    if type(thing) is not tuple or thing == ():
        return rng.choice((None, 0, 1, (), "", "one", "stuck", "free", ((),)))
    at = rng.randrange(len(thing))
    what = rng.random()
    if what < 0.7:
        return thing[:at] + (near(thing[at], rng),) + thing[at + 1:]
    if what < 0.8:
        return thing[:at] + thing[at + 1:]
    if what < 0.9:
        return thing[:at] + (thing[at],) + thing[at:]
    other = rng.randrange(len(thing))
    parts = list(thing)
    parts[at], parts[other] = thing[other], thing[at]
    return tuple(parts)


class LedgerFormsTest(unittest.TestCase):
    def assert_good(self, n, wheel, coats, rule, thing):
        """The thing must be a ledger: the web that is written of it must have it, and be in normal form."""
        self.assertIs(is_ledger(n, wheel, coats, rule, thing), True, thing)
        web = written(n, wheel, coats, rule, thing)
        self.assertIs(type(web), Web)
        self.assertEqual((web.n, web.wheel, web.coats, web.rule), (n, wheel, coats, rule))
        self.assertEqual(ledger(web), thing)
        self.assertEqual(normal(web), web)
        return web

    def assert_bad(self, n, wheel, coats, rule, *things):
        for thing in things:
            self.assertIs(is_ledger(n, wheel, coats, rule, thing), False, thing)
            assert_refused(self, BadLedger, 0, written, n, wheel, coats, rule, thing)

    def test_ledgers_of_small_webs(self):
        for n, wheel, coats, most in ((1, 3, 1, 0), (2, 3, 2, 2), (3, 2, 2, 3), (3, 6, 1, 3), (3, 1, 2, 4), (4, 2, 1, 3)):
            for rule in RULES:
                for count in range(most + 1):
                    for threads in all_bags(n, wheel, coats, count):
                        web = webbed(n, wheel, coats, rule, threads)
                        found = written(n, wheel, coats, rule, ledger(web))
                        self.assertEqual(found, normal(web))
                        self.assertIs(is_ledger(n, wheel, coats, rule, ledger(web)), True)

    def test_ledgers_of_random_webs(self):
        rng = random.Random(30)
        for _ in range(400):
            web = random_web(
                rng, n=rng.randint(2, 20), wheel=rng.choice((0, 0, 1, 2, 12, 997, 10 ** 6)), coats=rng.randint(1, 4),
                rule=rng.choice(RULES), bundles=rng.randint(0, 30),
            )
            found = self.assert_good(web.n, web.wheel, web.coats, web.rule, ledger(web))
            self.assertEqual(found, normal(web))

    def test_what_is_near_a_ledger(self):
        # What is judged to be a ledger must be one of a web. What is not: no web that was looked at has it.
        rng = random.Random(301)
        known = {}
        frames = [(n, wheel, coats, rule) for n, wheel, coats in ((2, 3, 2), (3, 2, 2), (3, 6, 1)) for rule in RULES]
        for n, wheel, coats, rule in frames:
            bags = [threads for count in range(4) for threads in all_bags(n, wheel, coats, count)]
            known[n, wheel, coats, rule] = {ledger(webbed(n, wheel, coats, rule, threads)) for threads in bags}
        judged = {True: 0, False: 0}
        for frame in frames:
            some = rng.sample(sorted(known[frame], key=repr), min(60, len(known[frame])))
            for thing in some * 12:
                other = near(thing, rng)
                if rng.random() < 0.3:
                    other = near(other, rng)
                found = is_ledger(*frame, other)
                judged[found] += 1
                if found:
                    self.assert_good(*frame, other)
                else:
                    self.assertNotIn(other, known[frame])
                    self.assert_bad(*frame, other)
        self.assertGreater(min(judged.values()), 150)

    def test_what_is_near_a_greater_ledger(self):
        rng = random.Random(302)
        for _ in range(150):
            wheel, coats, rule = rng.choice((0, 4, 12)), rng.randint(1, 3), rng.choice(RULES)
            web = random_web(rng, n=rng.randint(2, 6), wheel=wheel, coats=coats, rule=rule, bundles=rng.randint(0, 9))
            for _ in range(20):
                other = near(ledger(web), rng)
                if is_ledger(web.n, wheel, coats, rule, other):
                    self.assert_good(web.n, wheel, coats, rule, other)

    def test_good_ones(self):
        self.assert_good(3, 6, 2, "all", ONE_SPARE)
        self.assert_good(3, 6, 2, "others", ONE_SPARE)
        self.assert_good(4, 6, 2, "others", TREE)
        self.assert_good(3, 6, 2, "others", STUCK)
        self.assert_good(3, 6, 2, "own", ((("free", (0, 1, 2), (3, 0), 1, 3, 3, (0, 2, 1)),), (
            ("stuck", (0, 2), ((0, 2, 4, 1, 1),)), ("one", 1),
        )))
        self.assertIs(is_ledger(thing=STUCK, rule="all", coats=2, wheel=6, n=3), True)
        self.assertEqual(written(thing=(("one", 0),), rule="all", coats=1, wheel=0, n=1), made_web(1, 0, 1, "all", ()))

    def test_no_bounds_of_size(self):
        far = 10 ** 50
        web = self.assert_good(3, 0, 1, "all", (("free", (0, 1, 2), (far,), far - 2, 7 * far, None, (0, -far % (7 * far), 5)),))
        self.assertEqual(sum(bundle[4] for bundle in web.bundles), far)
        self.assert_good(3, 0, 1, "all", (("free", (0, 1, 2), (2,), 0, 0, None, (0, -far, far)),))
        self.assert_good(2, 0, 1, "all", (("stuck", (0, 1), ((0, 1, -far, 0, far), (0, 1, far, 0, 1))),))
        many = tuple((0, 1, length, 0, 1) for length in range(1900))
        self.assert_good(2, 10 ** 6, 1, "all", (("stuck", (0, 1), many),))

    def test_frames(self):
        thing = (("one", 0),)
        for n, wheel, coats, rule, error, what in (
            (0, -1, 0, "", BadSize, 0), (21, 0, 1, "all", BadSize, 21), (1, -1, 0, "", BadWheel, -1),
            (1, 10 ** 6 + 1, 1, "all", BadWheel, 10 ** 6 + 1), (1, 0, 0, "", BadCoats, 0), (1, 0, 5, "all", BadCoats, 5),
            (1, 0, 1, "none", BadRule, "none"),
        ):
            self.assertIs(is_ledger(n, wheel, coats, rule, thing), False)
            assert_refused(self, error, what, written, n, wheel, coats, rule, thing)
            assert_refused(self, error, what, written, n, wheel, coats, rule, None)
        self.assert_bad(2, 0, 1, "all", thing)
        self.assert_bad(1, 0, 1, "own", thing)
        self.assert_bad(1, 0, 2, "own", (thing,), (thing, thing, thing))
        self.assert_good(1, 0, 2, "own", (thing, thing))

    def test_any_values(self):
        deep = ()
        for _ in range(99):
            deep = (deep,)
        values = (None, 0, 1, -1, "", "one", "free", (), ((),), (None,), ((None,),), ("one",), (("one",),), deep, (deep,))
        wide = (((), 0, "free", None) * 2000,)
        for rule in RULES:
            self.assert_bad(3, 6, 2, rule, *values, wide, wide * 2)
            self.assert_bad(1, 6, 1, rule, *values, *[((value, 0),) for value in values[:5]], *[(("one", value),) for value in (
                None, "0", (0,), 1, -1, deep,
            )])
        for at in range(7):
            for value in (None, "", (), ((),), (0,), deep, (deep,), -1, 99):
                thing = (FREE[:at] + (value,) + FREE[at + 1:],)
                self.assert_bad(3, 6, 2, "all", thing)
        for at in range(3):
            for value in (None, "", (), ((),), (0,), deep, (deep,), -1, 99):
                row = STUCK[0]
                self.assert_bad(3, 6, 2, "all", (row[:at] + (value,) + row[at + 1:], STUCK[1]))

    def test_places(self):
        one = [("one", place) for place in range(4)]
        self.assert_good(3, 6, 2, "all", tuple(one[:3]))
        self.assert_bad(
            3, 6, 2, "all", tuple(one), tuple(one[:2]), (one[1], one[0], one[2]), (one[0], one[0], one[1], one[2]),
            (*ONE_SPARE, one[2]), (one[0], *ONE_SPARE), (("one", 0, 1), one[1], one[2]), ((*one[0], ()), one[1], one[2]),
        )
        self.assert_bad(4, 6, 2, "all", (TREE[1], TREE[0]), (("free", (0, 3, 2)) + TREE[0][2:], TREE[1]))
        self.assert_bad(3, 6, 2, "all", (("free", (0, 1), (2, 1), 2, 1, None, (0, 0)), ("one", 2)))

    def test_stuck_rows(self):
        def thing(*bundles, lot=(0, 1), rest=(("one", 2),)):
            return (("stuck", lot, bundles), *rest)

        self.assert_good(3, 6, 2, "all", thing((0, 1, 5, 1, 10 ** 10)))
        self.assert_bad(
            3, 6, 2, "all", thing(), thing((0, 1, 6, 0, 1)), thing((0, 1, -1, 0, 1)), thing((0, 1, 0, 2, 1)),
            thing((0, 1, 0, -1, 1)), thing((0, 1, 0, 0, 0)), thing((1, 0, 0, 0, 1)), thing((0, 2, 0, 0, 1)),
            thing((0, 1, 0, 0, 1), (0, 1, 0, 0, 1)), thing((0, 1, 1, 0, 1), (0, 1, 0, 0, 1)), thing((0, 1, 0, 0)),
            thing((0, 1, 0, 0, 1, 1)), thing((0, 1, 0, 0, 1), None), thing((0, 1, 0, 0, 1), (0, 1, 0, 0, 2)),
            thing((0, 1, 0, 0, 1), (0, 2, 0, 0, 1), lot=(0, 1, 2), rest=()), thing((0, 0, 0, 0, 1)),
            thing((0, 1, 0, 0, 1), lot=(0,), rest=(("one", 1), ("one", 2))), thing(lot=(0,), rest=(("one", 1), ("one", 2))),
            thing((0, 1, 0, 0, 1), (1, 1, 0, 0, 1)), thing((0, 1, 0, 0, 1), (0, 2, 0, 0, 1)), thing((0, 1, 0, 0, 1), lot=(1, 0)),
            (("one", 0), ("one", 1), ("stuck", (2, 3), ((2, 3, 0, 0, 1),))), (("stuck", (-1, 0), ((-1, 0, 0, 0, 1),)), ("one", 1)),
            (("stuck", (0, 10 ** 30), ((0, 10 ** 30, 0, 0, 1),)), ("one", 1), ("one", 2)), thing((0, 1, 0, 0, 1), lot=(0, 0, 1)),
        )
        three = thing((0, 1, 0, 1, 1), (0, 2, 0, 1, 1), lot=(0, 1, 2), rest=())
        self.assert_good(3, 6, 2, "others", three)
        self.assert_bad(
            3, 6, 2, "others", thing((0, 1, 0, 1, 1), (0, 2, 0, 0, 1), lot=(0, 1, 2), rest=()),
            thing((0, 1, 0, 1, 1), (0, 1, 1, 1, 1), lot=(0, 1, 2), rest=()),
        )
        # Under "own" the bundles have none of the other coats.
        single = (("one", 0), ("one", 1), ("one", 2))
        self.assert_good(3, 6, 2, "own", (single, thing((0, 1, 0, 1, 1))))
        self.assert_bad(
            3, 6, 2, "own", (thing((0, 1, 0, 1, 1)), single), (single, thing((0, 1, 0, 0, 1), (0, 1, 0, 1, 1))),
            (single, three), (three, single),
        )

    def test_free_rows(self):
        def thing(counts, spares, measure, ring, heights, lot=(0, 1, 2)):
            return (("free", lot, counts, spares, measure, ring, heights),)

        for good in (
            thing((2, 0), 0, 6, None, (0, 5, 5)), thing((1, 1), 0, 6, None, (0, 0, 0)), thing((3, 0), 1, 6, 0, (0, 5, 0)),
            thing((0, 3), 1, 2, 2, (0, 1, 1)), thing((1, 2), 1, 1, 1, (0, 0, 0)), thing((4, 9), 11, 6, None, (0, 5, 0)),
            thing((0, 10 ** 10), 10 ** 10 - 2, 3, None, (0, 2, 2)),
        ):
            self.assert_good(3, 6, 2, "all", good)
        self.assert_bad(
            3, 6, 2, "all", thing((1, 0), -1, 6, None, (0, 0, 0)), thing((1, 1), 1, 6, 0, (0, 0, 0)),
            thing((1, 1), 0, 3, None, (0, 0, 0)), thing((1, 1), 0, 0, None, (0, 0, 0)), thing((1, 1), 0, 6, 0, (0, 0, 0)),
            thing((3, 0), 1, 6, None, (0, 0, 0)), thing((3, 0), 1, 2, 4, (0, 0, 0)), thing((3, 0), 1, 1, -1, (0, 0, 0)),
            thing((3, 0), 1, 6, 6, (0, 0, 0)), thing((3, 0), 1, 3, 2, (0, 0, 0)), thing((3, 0), 1, 6, 2, (0, 0, 0)),
            thing((4, 0), 2, 6, 0, (0, 0, 0)), thing((4, 0), 2, 4, None, (0, 0, 0)), thing((4, 0), 2, 0, None, (0, 0, 0)),
            thing((4, 0), 2, -1, None, (0, 0, 0)), thing((4, 0), 2, 12, None, (0, 0, 0)), thing((4, 0), 3, 6, None, (0, 0, 0)),
            thing((4, 0), 2, 3, None, (0, 3, 0)), thing((4, 0), 2, 3, None, (0, -1, 0)), thing((4, 0), 2, 3, None, (1, 0, 0)),
            thing((4, 0), 2, 3, None, (0, 0)), thing((4, 0), 2, 3, None, (0, 0, 0, 0)), thing((5, -1), 2, 3, None, (0, 0, 0)),
            thing((4,), 2, 3, None, (0, 0, 0)), thing((4, 0, 0), 2, 3, None, (0, 0, 0)), thing((), -2, 6, None, (0, 0, 0)),
        )
        self.assert_good(3, 6, 2, "others", thing((1, 3), 2, 6, None, (0, 0, 0)))
        self.assert_bad(3, 6, 2, "others", thing((4, 0), 2, 6, None, (0, 0, 0)), thing((0, 2), 0, 6, None, (0, 0, 0)))
        single = (("one", 0), ("one", 1), ("one", 2))
        self.assert_good(3, 6, 2, "own", (single, thing((0, 4), 2, 6, None, (0, 0, 0))))
        self.assert_bad(
            3, 6, 2, "own", (single, thing((4, 0), 2, 6, None, (0, 0, 0))), (single, thing((1, 3), 2, 6, None, (0, 0, 0))),
            (thing((0, 4), 2, 6, None, (0, 0, 0)), single),
        )

    def test_free_rows_with_the_wheel_0(self):
        def thing(counts, spares, measure, ring, heights):
            return (("free", (0, 1, 2), counts, spares, measure, ring, heights),)

        for good in (
            thing((2,), 0, 0, None, (0, -5, 5)), thing((3,), 1, 0, 0, (0, -5, 5)), thing((3,), 1, 7, 7, (0, 6, 0)),
            thing((4,), 2, 0, None, (0, -7, 7)), thing((4,), 2, 1, None, (0, 0, 0)), thing((4,), 2, 9, None, (0, 8, 0)),
        ):
            self.assert_good(3, 0, 1, "all", good)
        self.assert_bad(
            3, 0, 1, "all", thing((2,), 0, 1, None, (0, 0, 0)), thing((3,), 1, 7, -7, (0, 6, 0)), thing((3,), 1, 0, 7, (0, 6, 0)),
            thing((3,), 1, 7, 7, (0, 7, 0)), thing((4,), 2, -1, None, (0, 0, 0)), thing((4,), 2, 9, None, (0, -1, 0)),
            thing((4,), 2, 9, 9, (0, 0, 0)), thing((4,), 2, 0, None, (1, 0, 0)),
        )

    def test_written_webs_are_what_runs_lead_to(self):
        rng = random.Random(303)
        for _ in range(60):
            rule = rng.choice(RULES)
            web = random_web(rng, n=5, wheel=rng.choice((0, 6)), coats=2, rule=rule, bundles=8)
            self.assertEqual(walked(web, normal_run(web)), written(5, web.wheel, 2, rule, ledger(web)))


if __name__ == "__main__":
    unittest.main()
