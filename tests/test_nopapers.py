"""Point [14]: papers that two webs are not joined."""

import itertools
import random
import unittest

from carriedends.errors import NotJoined, Unlike
from carriedends.ledger import joined, ledger
from carriedends.nopapers import parting, parting_right
from carriedends.runs import offers, walked
from carriedends.webs import Web, made_web
from tests.helping import assert_refused, assert_same, random_web
from tests.plainly import classes, single, webbed

SMALL = (
    (3, 5, 1, "all", 3), (3, 2, 2, "all", 3), (3, 2, 2, "others", 3), (3, 4, 2, "others", 2), (4, 1, 2, "others", 3),
    (3, 2, 2, "own", 3), (3, 4, 1, "own", 3),
)


def threads_in(web, places, coat):
    """The single threads looked at that have an end among the places; None if one has just one."""
    found = []
    for thread in single(web):
        ends = sum(place in places for place in thread[:2])
        if ends == 1 and coat in (None, thread[3]):
            return None
        if ends == 2 and coat in (None, thread[3]):
            found.append(thread)
    return found


def is_lot(web, places, coat):
    """Whether the threads looked at hang the places together and none of them leaves them."""
    threads = threads_in(web, places, coat)
    if threads is None:
        return False
    reached = {places[0]}
    for _ in places:
        for u, v, _, _ in threads:
            if u in reached or v in reached:
                reached |= {u, v}
    return reached == set(places)


def plain_ring(wheel, places, threads):
    """The ring of as many threads as places, by taking away one thread after the other until the rest is a tree."""
    for index, (u, v, length, _) in enumerate(threads):
        heights = {places[0]: 0}
        rest = threads[:index] + threads[index + 1:]
        for _ in places:
            for a, b, step, _ in rest:
                if a in heights:
                    heights.setdefault(b, heights[a] + step)
                elif b in heights:
                    heights.setdefault(a, heights[b] - step)
        if len(heights) == len(places):
            gap = heights[u] + length - heights[v]
            return min(gap % wheel, -gap % wheel) if wheel else abs(gap)
    return None


def agree(threads, places, measure, heights):
    gaps = [length + heights[places.index(u)] - heights[places.index(v)] for u, v, length, _ in threads]
    return all(gap % measure == 0 if measure else gap == 0 for gap in gaps)


def plain_right(one, other, paper):
    """Whether a paper of a right form holds, told thread by thread."""
    coat = paper[-1] if one.rule == "own" else None
    kind, places = paper[:2]
    if kind == "lot":
        return is_lot(one, places, coat) != is_lot(other, places, coat)
    if not (is_lot(one, places, coat) and is_lot(other, places, coat)):
        return False
    both = [threads_in(web, places, coat) for web in (one, other)]
    if kind == "stuck":
        plain = any(len({thread[3] for thread in threads}) <= 1 for threads in both)
        return (len(places) == 2 or one.rule == "others" and plain) and both[0] != both[1]
    if kind == "coat":
        return len({sum(thread[3] == paper[2] for thread in threads) for threads in both}) == 2
    if kind == "height":
        measure, heights = paper[2:4]
        if measure == 1 or one.wheel and (measure == 0 or one.wheel % measure):
            return False
        return len({agree(threads, places, measure, heights) for threads in both}) == 2
    if not all(len(threads) == len(places) for threads in both):
        return False
    return plain_ring(one.wheel, places, both[0]) != plain_ring(one.wheel, places, both[1])


def due_paper(one, other):
    """The paper that [14] chooses, read off the ledgers."""
    if one.rule != "own":
        return due_from_rows(ledger(one), ledger(other), other, None)
    for coat, (rows, others) in enumerate(zip(ledger(one), ledger(other))):
        paper = due_from_rows(rows, others, other, coat)
        if paper:
            return paper + ("own", coat)
    return None


def places_of(row):
    return (row[1],) if row[0] == "one" else row[1]


def due_from_rows(rows, others, other, coat):
    for place in range(other.n):
        mine = [places_of(row) for row in rows if place in places_of(row)][0]
        theirs = [places_of(row) for row in others if place in places_of(row)][0]
        if mine != theirs:
            return ("lot", mine)
    for row, its in zip(rows, others):
        if row == its:
            continue
        places = row[1]
        if "stuck" in (row[0], its[0]):
            return ("stuck", places)
        if row[2] != its[2]:
            return ("coat", places, min(k for k in range(other.coats) if row[2][k] != its[2][k]))
        if (row[4], row[6]) != (its[4], its[6]):
            by_mine = agree(threads_in(other, places, coat), places, row[4], row[6])
            return ("height", places) + ((its[4], its[6]) if by_mine else (row[4], row[6]))
        return ("ring", places)
    return None


def papers_of(web):
    """All papers of right forms with few numbers."""
    ends = [()] if web.rule != "own" else [("own", coat) for coat in range(web.coats)]
    for size in range(1, web.n + 1):
        for places in itertools.combinations(range(web.n), size):
            bodies = [("lot", places), ("stuck", places), ("ring", places)]
            bodies += [("coat", places, k) for k in range(web.coats)]
            for measure in range(web.wheel + 1):
                for heights in itertools.product(range(max(1, measure)), repeat=size - 1):
                    bodies.append(("height", places, measure, (0,) + heights))
            for body, end in itertools.product(bodies, ends):
                yield body + end


def ring_web(length, *more, wheel=8, rule="all"):
    return made_web(3, wheel, 1, rule, ((0, 1, 0, 0, 1), (1, 2, 0, 0, 1), (0, 2, length, 0, 1)) + more)


class PartingTest(unittest.TestCase):
    def assert_parts(self, one, other, paper):
        bundles = (one.bundles, other.bundles)
        assert_same(self, parting(one, other), paper)
        self.assertIs(parting_right(one, other, paper), True)
        self.assertIs(parting_right(other, one, paper), True)
        self.assertEqual((one.bundles, other.bundles), bundles)

    def assert_joined(self, one, other):
        assert_refused(self, NotJoined, 1, parting, one, other)

    def test_example_of_lots(self):
        one = made_web(3, 1, 1, "all", ((0, 1, 0, 0, 1),))
        other = made_web(3, 1, 1, "all", ((0, 2, 0, 0, 1),))
        self.assert_parts(one, other, ("lot", (0, 1)))
        self.assert_parts(other, one, ("lot", (0, 2)))

    def test_example_of_rings_and_heights(self):
        webs = [ring_web(length) for length in (1, 2, 3)]
        self.assertEqual([ledger(web)[0][4:6] for web in webs], [(1, 1), (2, 2), (1, 3)])
        self.assert_parts(webs[0], webs[2], ("ring", (0, 1, 2)))
        self.assert_parts(webs[0], webs[1], ("height", (0, 1, 2), 2, (0, 0, 0)))
        self.assert_parts(webs[1], webs[0], ("height", (0, 1, 2), 2, (0, 0, 0)))
        more = [ring_web(length, (0, 1, 0, 0, 1)) for length in (1, 2, 3)]
        self.assert_joined(more[0], more[2])
        for at in (0, 2):
            self.assert_parts(more[1], more[at], ("height", (0, 1, 2), 2, (0, 0, 0)))

    def test_example_of_stuck_lots(self):
        one = made_web(2, 3, 1, "all", ((0, 1, 0, 0, 1), (0, 1, 1, 0, 1)))
        other = made_web(2, 3, 1, "all", ((0, 1, 0, 0, 1), (0, 1, 2, 0, 1)))
        self.assert_parts(one, other, ("stuck", (0, 1)))

    def test_which_lot(self):
        one = made_web(6, 1, 1, "all", ((1, 3, 0, 0, 1), (4, 5, 0, 0, 1)))
        other = made_web(6, 1, 1, "all", ((1, 2, 0, 0, 1), (4, 5, 0, 0, 2)))
        self.assert_parts(one, other, ("lot", (1, 3)))
        self.assert_parts(other, one, ("lot", (1, 2)))
        empty = made_web(6, 1, 1, "all", ((4, 5, 0, 0, 1),))
        self.assert_parts(empty, one, ("lot", (1,)))
        self.assert_parts(one, empty, ("lot", (1, 3)))
        whole = made_web(6, 1, 1, "all", ((1, 3, 0, 0, 1), (2, 3, 0, 0, 1), (4, 5, 0, 0, 1)))
        self.assert_parts(one, whole, ("lot", (1, 3)))
        self.assert_parts(whole, one, ("lot", (1, 2, 3)))

    def test_one_coat_under_others(self):
        one = made_web(3, 5, 2, "others", ((0, 1, 0, 0, 1), (1, 2, 0, 0, 1)))
        other = made_web(3, 5, 2, "others", ((0, 1, 0, 0, 1), (1, 2, 0, 1, 1)))
        third = made_web(3, 5, 2, "others", ((0, 1, 0, 0, 1), (0, 2, 0, 0, 1)))
        self.assert_parts(one, other, ("stuck", (0, 1, 2)))
        self.assert_parts(other, one, ("stuck", (0, 1, 2)))
        self.assert_parts(one, third, ("stuck", (0, 1, 2)))
        self.assert_joined(one, made_web(3, 5, 2, "others", one.bundles))
        one, other, third = [made_web(3, 5, 2, "all", web.bundles) for web in (one, other, third)]
        self.assert_parts(one, other, ("coat", (0, 1, 2), 0))
        self.assert_joined(one, third)

    def test_order_within_a_lot(self):
        # Coats before heights, the least coat of those that differ.
        one = made_web(3, 5, 4, "all", ((0, 1, 0, 1, 1), (1, 2, 0, 3, 1)))
        other = made_web(3, 5, 4, "all", ((0, 1, 0, 1, 1), (1, 2, 1, 2, 1)))
        self.assert_parts(one, other, ("coat", (0, 1, 2), 2))
        # Heights before rings.
        one = made_web(3, 8, 1, "all", ((0, 1, 0, 0, 1), (1, 2, 0, 0, 1), (0, 2, 0, 0, 1)))
        other = made_web(3, 8, 1, "all", ((0, 1, 0, 0, 1), (1, 2, 0, 0, 1), (0, 2, 4, 0, 1)))
        self.assert_parts(one, other, ("height", (0, 1, 2), 8, (0, 0, 0)))
        self.assert_parts(other, one, ("height", (0, 1, 2), 8, (0, 0, 0)))
        # Lots one after the other, the first one in which something differs.
        one = made_web(7, 1, 1, "all", ((0, 1, 0, 0, 1), (2, 3, 0, 0, 1), (3, 4, 0, 0, 1), (5, 6, 0, 0, 1)))
        other = made_web(7, 1, 1, "all", ((0, 1, 0, 0, 1), (2, 3, 0, 0, 1), (2, 4, 0, 0, 2), (5, 6, 0, 0, 2)))
        self.assert_parts(one, other, ("coat", (2, 3, 4), 0))
        third = made_web(7, 1, 1, "all", ((0, 1, 0, 0, 1), (2, 3, 0, 0, 1), (2, 4, 0, 0, 1), (5, 6, 0, 0, 2)))
        self.assert_parts(one, third, ("stuck", (5, 6)))

    def test_heights_of_which_web(self):
        tree = ((0, 1, 1, 0, 1), (1, 2, 2, 0, 1))
        bent = ((0, 1, 1, 0, 1), (1, 2, 3, 0, 1))
        one, other = made_web(3, 6, 1, "all", tree), made_web(3, 6, 1, "all", bent)
        self.assert_parts(one, other, ("height", (0, 1, 2), 6, (0, 1, 3)))
        self.assert_parts(other, one, ("height", (0, 1, 2), 6, (0, 1, 4)))
        one, other = made_web(3, 0, 1, "all", tree), made_web(3, 0, 1, "all", bent)
        self.assert_parts(one, other, ("height", (0, 1, 2), 0, (0, 1, 3)))
        self.assert_parts(other, one, ("height", (0, 1, 2), 0, (0, 1, 4)))
        # The measures 2 and 3: neither agrees with the other one's.
        one = made_web(3, 6, 1, "all", tree + ((0, 1, 3, 0, 1),))
        other = made_web(3, 6, 1, "all", tree + ((0, 1, 4, 0, 1),))
        self.assert_parts(one, other, ("height", (0, 1, 2), 2, (0, 1, 1)))
        self.assert_parts(other, one, ("height", (0, 1, 2), 3, (0, 1, 0)))
        # The measure 2 agrees with what the measure 6 has; then the greater one is told.
        one = made_web(3, 12, 1, "all", tree + ((0, 1, 3, 0, 1),))
        other = made_web(3, 12, 1, "all", tree + ((0, 1, 7, 0, 1),))
        for web, its in ((one, other), (other, one)):
            self.assert_parts(web, its, ("height", (0, 1, 2), 6, (0, 1, 3)))
        # So for the wheel 0, where 0 is the greatest measure.
        one = made_web(3, 0, 1, "all", tree + ((0, 1, 3, 0, 1),))
        other = made_web(3, 0, 1, "all", tree + ((0, 1, 1, 0, 1),))
        for web, its in ((one, other), (other, one)):
            self.assert_parts(web, its, ("height", (0, 1, 2), 0, (0, 1, 3)))

    def test_own_names_the_coat(self):
        def own(*bundles):
            return made_web(3, 4, 3, "own", bundles)

        path = ((0, 1, 0, 2, 1), (1, 2, 0, 2, 1))
        self.assert_parts(own(*path), own((0, 1, 0, 2, 1)), ("lot", (0, 1, 2), "own", 2))
        self.assert_parts(own((0, 1, 0, 1, 1), *path), own(), ("lot", (0, 1), "own", 1))
        self.assert_parts(own((0, 1, 0, 1, 1), *path), own((0, 1, 1, 1, 1)), ("stuck", (0, 1), "own", 1))
        self.assert_parts(own(*path), own((0, 2, 0, 2, 1), *path), ("coat", (0, 1, 2), 2, "own", 2))
        self.assert_parts(own(*path), own((0, 1, 1, 2, 1), (1, 2, 0, 2, 1)),
                          ("height", (0, 1, 2), 4, (0, 0, 0), "own", 2))
        self.assert_parts(own((0, 2, 1, 0, 1), (0, 2, 0, 2, 1), *path), own((0, 2, 1, 0, 1), (0, 2, 2, 2, 1), *path),
                          ("height", (0, 1, 2), 4, (0, 0, 0), "own", 2))
        rings = [
            made_web(3, 8, 2, "own", tuple((*bundle[:3], 1, 1) for bundle in ring_web(length).bundles))
            for length in (1, 3)
        ]
        self.assert_parts(*rings, ("ring", (0, 1, 2), "own", 1))

    def test_all_pairs_of_small_classes(self):
        rng = random.Random(14)
        for n, wheel, coats, rule, count in SMALL:
            with self.subTest(n=n, wheel=wheel, coats=coats, rule=rule, count=count):
                found = classes(n, wheel, coats, rule, count)
                pairs = list(itertools.product(found, found))
                for one, other in rng.sample(pairs, min(1000, len(pairs))):
                    web = webbed(n, wheel, coats, rule, rng.choice(sorted(one)))
                    its = webbed(n, wheel, coats, rule, rng.choice(sorted(other)))
                    if one is other:
                        self.assert_joined(web, its)
                    else:
                        paper = parting(web, its)
                        self.assertEqual(paper, due_paper(web, its))
                        self.assertIs(parting_right(web, its, paper), True)

    def test_random_webs_that_differ_in_little(self):
        rng = random.Random(141)
        kinds = set()
        for _ in range(1500):
            one = random_web(
                rng, n=rng.randint(2, 6), wheel=rng.choice((0, 0, 1, 4, 6, 12, 360)), coats=rng.randint(1, 3),
                rule=rng.choice(("all", "others", "own")), bundles=rng.randint(1, 7), counts=(1, 1, 1, 2),
            )
            bundles = list(one.bundles)
            at = rng.randrange(len(bundles))
            u, v, length, coat, count = bundles[at]
            bundles[at] = rng.choice((
                (u, v, length + 1, coat, count), (u, v, length * 5, coat, count), (u, v, length, 0, count),
                (u, v, length, coat, count + 1), (0, one.n - 1, length, coat, count),
            ))
            bundles[at] = bundles[at][:2] + (bundles[at][2] % (one.wheel or 10 ** 12),) + bundles[at][3:]
            other = made_web(one.n, one.wheel, one.coats, one.rule, tuple(bundles))
            for _ in range(2):
                free = offers(other)
                other = walked(other, (rng.choice(free),)) if free else other
            if joined(one, other):
                self.assert_joined(one, other)
            else:
                paper = parting(one, other)
                self.assert_parts(one, other, due_paper(one, other))
                self.assertTrue(plain_right(one, other, paper))
                kinds.add((paper[0], one.rule))
        common = itertools.product(("lot", "stuck", "coat", "height"), ("all", "others", "own"))
        self.assertLessEqual(set(common), kinds)

    def test_great_webs(self):
        far = 10 ** 12 - 1
        one = made_web(3, 0, 1, "all", ((0, 1, far, 0, 10 ** 8), (0, 1, -far, 0, 1), (1, 2, far, 0, 10 ** 8)))
        other = made_web(3, 0, 1, "all", ((0, 1, far, 0, 10 ** 8), (0, 1, 1 - far, 0, 1), (1, 2, far, 0, 10 ** 8)))
        self.assert_parts(one, other, ("height", (0, 1, 2), 2 * far, (0, far, 0)))
        wide = Web(3, 0, 1, "all", ((0, 1, 10 ** 60, 0, 1), (1, 2, 0, 0, 1)))
        wider = Web(3, 0, 1, "all", ((0, 1, 10 ** 60 + 1, 0, 1), (1, 2, 0, 0, 1)))
        self.assert_parts(wide, wider, ("height", (0, 1, 2), 0, (0, 10 ** 60, 10 ** 60)))

    def test_errors(self):
        one = made_web(3, 5, 2, "all", ())
        for name, other in (
            ("n", made_web(2, 6, 1, "own", ())), ("wheel", made_web(3, 6, 1, "own", ())),
            ("coats", made_web(3, 5, 1, "own", ())), ("rule", made_web(3, 5, 2, "own", ())),
        ):
            assert_refused(self, Unlike, name, parting, one, other)
            assert_refused(self, Unlike, name, parting, other, one)
        self.assert_joined(one, one)
        assert_refused(self, NotJoined, 1, parting, other=one, one=one)


class PartingRightTest(unittest.TestCase):
    def test_all_papers_of_small_webs(self):
        rng = random.Random(142)
        for n, wheel, coats, rule, count in SMALL + ((2, 4, 2, "all", 2), (2, 6, 1, "all", 2)):
            with self.subTest(n=n, wheel=wheel, coats=coats, rule=rule, count=count):
                found = classes(n, wheel, coats, rule, count)
                for _ in range(25):
                    one, other = rng.choice(found), rng.choice(found)
                    web = webbed(n, wheel, coats, rule, rng.choice(sorted(one)))
                    its = webbed(n, wheel, coats, rule, rng.choice(sorted(other)))
                    for paper in papers_of(web):
                        due = plain_right(web, its, paper)
                        self.assertIs(parting_right(web, its, paper), due, (web.bundles, its.bundles, paper))
                        self.assertFalse(due and one is other)

    def test_no_paper_is_right_for_joined_webs(self):
        rng = random.Random(143)
        for n, wheel, coats, rule, count in SMALL:
            for together in classes(n, wheel, coats, rule, count):
                members = sorted(together)
                web = webbed(n, wheel, coats, rule, members[0])
                its = webbed(n, wheel, coats, rule, rng.choice(members))
                papers = list(papers_of(web))
                for paper in rng.sample(papers, min(40, len(papers))):
                    self.assertIs(parting_right(web, its, paper), False)

    def test_heights_of_any_size_and_sign(self):
        one, other = ring_web(1), ring_web(2)
        great = 10 ** 5000
        for measure, heights, due in (
            (2, (0, 0, 0), True), (2, (2, -4, 6), True), (2, (1, 1, 1), True), (2, (great, -great, great), True),
            (2, (0, 1, 0), False), (4, (0, 0, 0), False), (8, (0, 0, 0), False), (1, (0, 0, 0), False),
            (0, (0, 0, 0), False), (-2, (0, 0, 0), False), (3, (0, 0, 0), False), (16, (0, 0, 0), False),
            (2, (0, 0), False), (2, (0, 0, 0, 0), False), (2, (0, None, 0), False), (2, ("0", 0, 0), False),
            (2, 0, False), (2, None, False), (None, (0, 0, 0), False), ("2", (0, 0, 0), False), (2, (), False),
            (great, (0, 0, 0), False),
        ):
            self.assertIs(parting_right(one, other, ("height", (0, 1, 2), measure, heights)), due)

    def test_measures_by_the_wheel_0(self):
        one, other = ring_web(0, wheel=0), ring_web(6, wheel=0)
        for measure, due in ((0, True), (1, False), (2, False), (3, False), (4, True), (5, True), (6, False),
                             (7, True), (-4, False), (10 ** 50, True)):
            self.assertIs(parting_right(one, other, ("height", (0, 1, 2), measure, (0, 0, 0))), due)

    def test_stuck_lots_may_be_told_by_other_papers(self):
        one = made_web(2, 8, 2, "all", ((0, 1, 0, 0, 1), (0, 1, 1, 0, 1)))
        other = made_web(2, 8, 2, "all", ((0, 1, 0, 0, 1), (0, 1, 2, 0, 1)))
        third = made_web(2, 8, 2, "all", ((0, 1, 0, 0, 1), (0, 1, 7, 0, 1)))
        for paper, due, with_third in (
            (("stuck", (0, 1)), True, True), (("ring", (0, 1)), True, False), (("coat", (0, 1), 0), False, False),
            (("height", (0, 1), 2, (0, 0)), True, False), (("lot", (0, 1)), False, False),
        ):
            self.assertIs(parting_right(one, other, paper), due)
            self.assertIs(parting_right(one, third, paper), with_third)
        coats = made_web(2, 8, 2, "all", ((0, 1, 0, 0, 1), (0, 1, 1, 1, 1)))
        for k in (0, 1):
            self.assertIs(parting_right(one, coats, ("coat", (0, 1), k)), True)

    def test_rings_need_one_spare(self):
        for more in ((), ((0, 1, 0, 0, 1),)):
            for rule in ("all", "own"):
                end = ("own", 0) if rule == "own" else ()
                one, other = ring_web(1, *more, rule=rule), ring_web(3, *more, rule=rule)
                self.assertIs(parting_right(one, other, ("ring", (0, 1, 2)) + end), more == ())
                self.assertIs(parting_right(one, ring_web(7, *more, rule=rule), ("ring", (0, 1, 2)) + end), False)
        self.assertIs(parting_right(ring_web(1), ring_web(3, (0, 1, 0, 0, 1)), ("ring", (0, 1, 2))), False)
        self.assertIs(parting_right(ring_web(1, (0, 1, 0, 0, 1)), ring_web(3), ("ring", (0, 1, 2))), False)
        tree = made_web(3, 8, 1, "all", ((0, 1, 0, 0, 1), (1, 2, 3, 0, 1)))
        self.assertIs(parting_right(tree, ring_web(3), ("ring", (0, 1, 2))), False)

    def test_forms(self):
        one = made_web(4, 8, 2, "all", ((0, 1, 0, 0, 1), (1, 2, 0, 0, 1)))
        other = made_web(4, 8, 2, "all", ((0, 1, 1, 0, 1), (2, 3, 0, 0, 1)))
        for paper in (("lot", (0, 1, 2)), ("lot", (0, 1)), ("lot", (2, 3)), ("lot", (3,))):
            self.assertIs(parting_right(one, other, paper), True)
        deep = ()
        for _ in range(98):
            deep = (deep,)
        for paper in (
            ("lot", (0,)), ("lot", (2,)), ("lot", ()), ("lot", (1, 0)), ("lot", (0, 0, 1)), ("lot", (0, 1, 1)),
            ("lot", (2, 1, 0)), ("lot", (-1, 0)), ("lot", (3, 4)), ("lot", (4,)), ("lot", 0), ("lot", None),
            ("lot", "01"), ("lot", (0, "1")), ("lot", ((0, 1),)), ("lot", (0, 1), 0), ("lot",), (), ("Lot", (0, 1)),
            ("lot", (0, 1), "own", 0), ("lots", (0, 1)), (0, (0, 1)), (None, (0, 1)), (("lot",), (0, 1)),
            None, 0, "lot", "", deep, (deep,), (deep, deep), ("lot", deep), (deep, (0, 1)), ("coat", (0, 1), deep),
            ("height", (0, 1), 2, deep), ("height", (0, 1), deep, (0, 0)), (0, 1), ((0, 1), "lot"),
        ):
            self.assertIs(parting_right(one, other, paper), False)

    def test_lengths_of_papers(self):
        webs = (ring_web(1), ring_web(3))
        self.assertIs(parting_right(*webs, ("ring", (0, 1, 2))), True)
        self.assertIs(parting_right(*webs, ("ring", (0, 1, 2), 0)), False)
        pair = (made_web(2, 3, 1, "all", ((0, 1, 0, 0, 1),)), made_web(2, 3, 1, "all", ((0, 1, 0, 0, 2),)))
        for paper, due in (
            (("stuck", (0, 1)), True), (("stuck", (0, 1), 0), False), (("coat", (0, 1), 0), True),
            (("coat", (0, 1)), False), (("coat", (0, 1), 0, 0), False), (("coat", (0, 1), 1), False),
            (("coat", (0, 1), -1), False), (("coat", (0, 1), None), False), (("coat", (0, 1), "0"), False),
            (("coat", (0, 1), (0,)), False), (("height", (0, 1), 3), False), (("height", (0, 1)), False),
            (("height", (0, 1), 3, (0, 0), 0), False),
        ):
            self.assertIs(parting_right(*pair, paper), due)

    def test_other_words(self):
        # What is right under one word is not right under another one.
        webs = (ring_web(1), ring_web(2))
        lengths = (made_web(2, 3, 2, "all", ((0, 1, 0, 0, 1),)), made_web(2, 3, 2, "all", ((0, 1, 0, 0, 2),)))
        for pair, paper in (
            (webs, ("height", (0, 1, 2), 2, (0, 0, 0))), (webs, ("ring", (0, 1, 2))), (lengths, ("stuck", (0, 1))),
            (lengths, ("coat", (0, 1), 0)),
        ):
            self.assertIs(parting_right(*pair, paper), True)
            for word in ("lot", "stuck", "coat", "height", "ring", "free", "one", "own", "", "Ring", None, 0, ("ring",)):
                if word != paper[0]:
                    self.assertIs(parting_right(*pair, (word, *paper[1:])), False, (word, paper))

    def test_own(self):
        one = made_web(3, 5, 2, "own", ((0, 1, 0, 0, 1), (0, 1, 0, 1, 1)))
        other = made_web(3, 5, 2, "own", ((0, 1, 0, 0, 1), (0, 2, 0, 1, 1)))
        for paper, due in (
            (("lot", (0, 1), "own", 1), True), (("lot", (0, 2), "own", 1), True), (("lot", (2,), "own", 1), True),
            (("lot", (0, 1), "own", 0), False), (("lot", (0, 1), "own", 2), False), (("lot", (0, 1), "own", -1), False),
            (("lot", (0, 1), "own", None), False), (("lot", (0, 1), "own", (1,)), False), (("lot", (0, 1)), False),
            (("lot", (0, 1), "Own", 1), False), (("lot", (0, 1), None, 1), False), (("lot", (0, 1), 1), False),
            (("lot", (0, 1), 1, "own"), False), (("lot", (0, 1), "own", 1, 0), False), (("own", 1), False),
            (("lot", "own", 1), False), ((), False), (("lot", (0, 1), "own"), False),
            (("lot", (0, 1), "own", 1, "own", 1), False), (("lot", (0, 1), 0, "own", 1), False),
        ):
            self.assertIs(parting_right(one, other, paper), due)
        for rule in ("all", "others"):
            webs = [made_web(3, 5, 2, rule, ((0, 1, 0, 0, 1), (0, end, 0, 1, 1))) for end in (1, 2)]
            self.assertIs(parting_right(*webs, ("lot", (0, 1))), True)
            self.assertIs(parting_right(*webs, ("lot", (0, 1), "own", 1)), False)

    def test_webs_that_are_not_alike(self):
        one = made_web(3, 5, 2, "all", ((0, 1, 0, 0, 1),))
        paper = ("lot", (0, 1))
        self.assertIs(parting_right(one, made_web(3, 5, 2, "all", ()), paper), True)
        self.assertIs(parting_right(other=made_web(3, 5, 2, "all", ()), paper=paper, one=one), True)
        for other in (
            made_web(4, 5, 2, "all", ()), made_web(3, 6, 2, "all", ()), made_web(3, 5, 1, "all", ()),
            made_web(3, 5, 2, "others", ()), made_web(3, 5, 2, "own", ()),
        ):
            self.assertIs(parting_right(one, other, paper), False)
            self.assertIs(parting_right(other, one, paper), False)
            self.assertIs(parting_right(one, other, paper + ("own", 0)), False)
            self.assertIs(parting_right(other, one, paper + ("own", 0)), False)

    def test_coat_of_unequal_counts_alone(self):
        one = made_web(3, 1, 2, "others", ((0, 1, 0, 0, 2), (1, 2, 0, 1, 1)))
        other = made_web(3, 1, 2, "others", ((0, 1, 0, 0, 2), (1, 2, 0, 1, 2)))
        self.assertIs(parting_right(one, other, ("coat", (0, 1, 2), 0)), False)
        self.assertIs(parting_right(one, other, ("coat", (0, 1, 2), 1)), True)
        # Both webs have threads of several coats there, so the lot is not stuck.
        self.assertIs(parting_right(one, other, ("stuck", (0, 1, 2))), False)


if __name__ == "__main__":
    unittest.main()
