"""Point [32]: the floor."""

import random
import unittest

from carriedends.carrying import done
from carriedends.deeds import slides_of
from carriedends.errors import (
    BadBundle, BadCount, BadDeed, NothingToRedo, NothingToUndo, NotJoined, Refused, TooMany, Wide,
)
from carriedends.classsize import class_size
from carriedends.floor import Floor
from carriedends.floorasks import can_go_home, kin, way_home, why_not
from carriedends.judged import run_right
from carriedends.ledger import joined
from carriedends.nopapers import parting, parting_right
from carriedends.normalrun import run_between
from carriedends.runs import offers
from carriedends.webs import Web, handy, made_web
from tests.helping import assert_refused, assert_same, random_web

MOST = 10 ** 9


def start():
    return made_web(4, 5, 2, "all", ((0, 1, 1, 0, 3), (1, 2, 2, 1, 1)))


def empty(*, n=3, wheel=5, coats=2, rule="all"):
    return Floor(made_web(n, wheel, coats, rule, ()))


class PlainFloor:
    """A floor told a second time: all states that there were are kept, and the deeds that lead from each to the next."""

    def __init__(self, web):
        self.states = [(web, web)]
        self.rows = []
        self.at = 0

    def stand(self, row, web, mark):
        del self.states[self.at + 1:], self.rows[self.at:]
        self.states.append((web, mark))
        self.rows.append(row)
        self.at += 1

    def standing(self):
        return tuple(self.rows[:self.at])


class FloorTest(unittest.TestCase):
    def assert_state(self, floor, web, mark, record):
        self.assertEqual(floor.web(), web)
        self.assertEqual(floor.marked(), mark)
        assert_same(self, floor.record(), record)
        assert_same(self, floor.made(), slides_of([row for row in record if row[0] in ("carry", "round")]))

    def test_beginning(self):
        floor = Floor(web=start())
        self.assert_state(floor, start(), start(), ())
        self.assertIs(type(floor.web()), Web)
        assert_refused(self, NothingToUndo, 0, floor.undo)
        assert_refused(self, NothingToRedo, 0, floor.redo)

    def test_each_deed(self):
        floor = Floor(start())
        self.assertIsNone(floor.carry(0, 1, 1, 0, 2, 2, 1, j=2))
        one = done(start(), ("carry", 0, 1, 1, 0, 2, 2, 1, 2))
        self.assert_state(floor, one, start(), (("carry", 0, 1, 1, 0, 2, 2, 1, 2),))
        self.assertIsNone(floor.around(1, 2, 2, 1, 0, 2, 0, 3, 0, q=3))
        two = done(one, ("round", 1, 2, 2, 1, 0, 2, 0, 3, 0, 1, 3))
        record = (("carry", 0, 1, 1, 0, 2, 2, 1, 2), ("round", 1, 2, 2, 1, 0, 2, 0, 3, 0, 1, 3))
        self.assert_state(floor, two, start(), record)
        self.assertEqual(floor.made(), 2 + 6)
        self.assertIsNone(floor.mark())
        self.assert_state(floor, two, two, (*record, ("mark",)))
        self.assertIsNone(floor.lay(3, 0, 2, 1, 7))
        laid = made_web(4, 5, 2, "all", (*two.bundles, (0, 3, 3, 1, 7)))
        self.assert_state(floor, laid, two, (*record, ("mark",), ("lay", 0, 3, 3, 1, 7)))
        self.assertIsNone(floor.lift(0, 3, 3, 1, 6))
        lifted = made_web(4, 5, 2, "all", (*two.bundles, (0, 3, 3, 1, 1)))
        self.assert_state(floor, lifted, two, (*record, ("mark",), ("lay", 0, 3, 3, 1, 7), ("lift", 0, 3, 3, 1, 6)))
        self.assertEqual(floor.made(), 8)

    def test_defaults_and_names(self):
        floor = Floor(start())
        floor.carry(v=1, u=0, length=1, coat=0, w=2, rail=2, railcoat=1)
        floor.around(u=1, v=2, length=2, coat=1, w=0, out=2, outcoat=0, back=3, backcoat=0)
        floor.lay(u=0, v=3, length=0, coat=0, count=1)
        floor.lift(u=3, v=0, length=0, coat=0, count=1)
        self.assertEqual(floor.record(), (
            ("carry", 0, 1, 1, 0, 2, 2, 1, 1), ("round", 1, 2, 2, 1, 0, 2, 0, 3, 0, 1, 1), ("lay", 0, 3, 0, 0, 1),
            ("lift", 0, 3, 0, 0, 1),
        ))

    def test_undo_and_redo(self):
        floor = Floor(start())
        floor.carry(0, 1, 1, 0, 2, 2, 1)
        floor.mark()
        floor.lift(1, 2, 2, 1, 1)
        states = [(floor.web(), floor.marked(), floor.record())]
        for _ in range(3):
            self.assertIsNone(floor.undo())
            states.append((floor.web(), floor.marked(), floor.record()))
        self.assert_state(floor, start(), start(), ())
        assert_refused(self, NothingToUndo, 0, floor.undo)
        # A deed that raises an error does not change what can be redone.
        assert_refused(self, BadDeed, 2, floor.carry, 3, 1, 1, 0, 2, 2, 1)
        assert_refused(self, BadBundle, 0, floor.lay, 0, 0, 0, 0, 1)
        assert_refused(self, BadCount, 9, floor.lift, 0, 1, 1, 0, 9)
        for state in reversed(states[:3]):
            self.assertIsNone(floor.redo())
            self.assertEqual((floor.web(), floor.marked(), floor.record()), state)
        assert_refused(self, NothingToRedo, 0, floor.redo)
        # After a deed that is done there is nothing to redo any more.
        for again in (floor.mark, lambda: floor.lay(0, 1, 0, 0, 1), lambda: floor.lift(0, 1, 1, 0, 1)):
            floor.undo()
            again()
            assert_refused(self, NothingToRedo, 0, floor.redo)

    def test_deeds_that_are_refused(self):
        floor = Floor(start())
        for what, deed in (
            (0, (0, 1, 5, 0, 2, 2, 1)), (1, (0, 1, 1, 0, 0, 2, 1)), (1, (0, 1, 1, 0, 4, 2, 1)), (2, (0, 1, 0, 0, 2, 2, 1)),
            (2, (0, 1, 1, 7, 2, 2, 1)), (3, (0, 1, 1, 0, 2, 2, 0)),
        ):
            assert_refused(self, BadDeed, what, floor.carry, *deed)
        assert_refused(self, BadDeed, 0, floor.carry, 0, 1, 1, 0, 2, 2, 1, j=0)
        assert_refused(self, BadDeed, 2, floor.carry, 0, 1, 1, 0, 2, 2, 1, j=4)
        assert_refused(self, BadDeed, 0, floor.around, 0, 1, 1, 0, 2, 2, 1, 3, 1, q=0)
        assert_refused(self, BadDeed, 0, floor.around, 0, 1, 1, 0, 2, 2, 1, 3, 1, q=10 ** 40)
        assert_refused(self, BadDeed, 3, floor.around, 0, 1, 1, 0, 2, 2, 1, 2, 1)
        self.assert_state(floor, start(), start(), ())
        floor.around(0, 1, 1, 0, 2, 2, 1, 3, 1, j=3, q=10 ** 40 - 1)
        self.assertEqual(floor.made(), 2 * 3 * (10 ** 40 - 1))
        own = Floor(made_web(3, 1, 2, "own", ((0, 1, 0, 0, 1), (1, 2, 0, 1, 1))))
        assert_refused(self, BadDeed, 4, own.carry, 0, 1, 0, 0, 2, 0, 1)

    def test_lay(self):
        floor = empty()
        for bundle in (
            (0, 0, 0, 0, 1), (0, 3, 0, 0, 1), (3, 0, 0, 0, 1), (-1, 0, 0, 0, 1), (0, 1, 5, 0, 1), (0, 1, -1, 0, 1),
            (1, 0, 5, 0, 1), (0, 1, 0, 2, 1), (0, 1, 0, -1, 1), (0, 1, 0, 0, 0), (0, 1, 0, 0, -1), (0, 1, 0, 0, MOST + 1),
        ):
            assert_refused(self, BadBundle, 0, floor.lay, *bundle)
            assert_refused(self, BadBundle, 0, floor.lift, *bundle)
        floor.lay(2, 0, 1, 0, 4)
        floor.lay(0, 2, 4, 0, MOST - 4)
        self.assertEqual(floor.web().bundles, ((0, 2, 4, 0, MOST),))
        for bundle, total in (((2, 0, 1, 0, 1), MOST + 1), ((0, 1, 0, 0, MOST), 2 * MOST)):
            assert_refused(self, BadCount, total, floor.lay, *bundle)
        self.assertEqual(floor.record(), (("lay", 0, 2, 4, 0, 4), ("lay", 0, 2, 4, 0, MOST - 4)))

    def test_lengths_without_a_wheel(self):
        floor = empty(wheel=0)
        far = 10 ** 12
        for length in (far, -far, 5 * far):
            assert_refused(self, BadBundle, 0, floor.lay, 0, 1, length, 0, 1)
            assert_refused(self, BadBundle, 0, floor.lift, 0, 1, length, 0, 1)
        floor.lay(0, 1, far - 1, 0, 1)
        floor.lay(1, 0, far - 1, 0, 1)
        self.assertEqual(floor.web().bundles, ((0, 1, 1 - far, 0, 1), (0, 1, far - 1, 0, 1)))
        floor.lay(1, 2, 1, 1, 2)
        floor.carry(0, 1, far - 1, 0, 2, 1, 1)
        # A thread that has come to a length that is not handed in cannot be lifted.
        self.assertIn((0, 2, far, 0, 1), floor.web().bundles)
        assert_refused(self, BadBundle, 0, floor.lift, 0, 2, far, 0, 1)
        assert_refused(self, BadBundle, 0, floor.lift, 2, 0, -far, 0, 1)

    def test_how_many_bundles(self):
        floor = Floor(made_web(20, 1000, 1, "all", tuple((0, 1, length, 0, 1) for length in range(29))))
        floor.lay(0, 2, 0, 0, 2)
        assert_refused(self, TooMany, 31, floor.lay, 0, 1, 40, 0, 1)
        floor.lay(0, 1, 0, 0, 1)
        self.assertEqual(len(floor.web().bundles), 30)
        # By a deed there are 31 bundles: then no thread is laid, also if it is there already.
        floor.carry(1, 0, 0, 0, 2, 0, 0)
        self.assertEqual(len(floor.web().bundles), 31)
        assert_refused(self, TooMany, 31, floor.lay, 0, 1, 1, 0, 1)
        assert_refused(self, TooMany, 32, floor.lay, 0, 1, 40, 0, MOST)
        assert_refused(self, BadBundle, 0, floor.lay, 0, 1, 1000, 0, 1)
        assert_refused(self, Wide, 0, way_home, floor)
        floor.lift(0, 1, 1, 0, 1)
        assert_refused(self, BadCount, MOST + 31, floor.lay, 0, 1, 0, 0, MOST)
        floor.lay(0, 1, 0, 0, MOST - 31)
        self.assertEqual(sum(bundle[4] for bundle in floor.web().bundles), MOST)

    def test_lift(self):
        floor = Floor(start())
        for bundle, count in (((0, 1, 1, 0, 4), 4), ((0, 2, 0, 0, 1), 1), ((0, 1, 1, 1, 1), 1), ((1, 0, 1, 0, 1), 1)):
            assert_refused(self, BadCount, count, floor.lift, *bundle)
        floor.lift(1, 0, 4, 0, 1)
        self.assertEqual(floor.web().bundles, ((0, 1, 1, 0, 2), (1, 2, 2, 1, 1)))
        floor.lift(0, 1, 1, 0, 2)
        floor.lift(1, 2, 2, 1, 1)
        self.assertEqual(floor.web().bundles, ())
        self.assertEqual(floor.record()[0], ("lift", 0, 1, 1, 0, 1))
        self.assertEqual(start(), made_web(4, 5, 2, "all", ((0, 1, 1, 0, 3), (1, 2, 2, 1, 1))))

    def test_how_many_deeds_stand(self):
        floor = Floor(start())
        for _ in range(300):
            floor.mark()
        for deed, given in (
            (floor.mark, ()), (floor.carry, (0, 1, 1, 0, 2, 2, 1)), (floor.around, (0, 1, 1, 0, 2, 2, 1, 3, 1)),
            (floor.lay, (0, 1, 0, 0, 1)), (floor.lift, (0, 1, 1, 0, 1)),
        ):
            assert_refused(self, TooMany, 301, deed, *given)
        # All other faults come first.
        assert_refused(self, BadDeed, 2, floor.carry, 0, 1, 0, 0, 2, 2, 1)
        assert_refused(self, BadDeed, 3, floor.around, 0, 1, 1, 0, 2, 2, 1, 2, 1)
        assert_refused(self, BadBundle, 0, floor.lay, 0, 1, 5, 0, 1)
        assert_refused(self, BadCount, MOST + 4, floor.lay, 0, 1, 0, 0, MOST)
        assert_refused(self, BadBundle, 0, floor.lift, 0, 1, 5, 0, 1)
        assert_refused(self, BadCount, 5, floor.lift, 0, 1, 1, 0, 5)
        self.assertEqual(len(floor.record()), 300)
        floor.undo()
        floor.carry(0, 1, 1, 0, 2, 2, 1)
        assert_refused(self, TooMany, 301, floor.mark)
        floor.undo()
        floor.redo()
        self.assertEqual(len(floor.record()), 300)
        for _ in range(300):
            floor.undo()
        assert_refused(self, NothingToUndo, 0, floor.undo)
        for _ in range(300):
            floor.redo()
        assert_refused(self, NothingToRedo, 0, floor.redo)
        self.assertEqual(floor.record()[-1], ("carry", 0, 1, 1, 0, 2, 2, 1, 1))

    def random_deed(self, rng, floor):
        """Some deed that is often granted: its row, what it is done by, and the web and the mark after it."""
        web, mark = floor.web(), floor.marked()
        kind = rng.choice(("carry", "carry", "carry", "round", "lay", "lift", "mark"))
        there = offers(web)
        if kind in ("carry", "round") and there:
            row = rng.choice(there)
            if kind == "round":
                _, u, v, length, coat, w, rail, railcoat, _ = row
                back = -rail % web.wheel if web.wheel else -rail
                row = ("round", u, v, length, coat, w, rail, railcoat, back, railcoat, 1, rng.randint(1, 9))
                return row, lambda: floor.around(*row[1:10], q=row[11]), done(web, row), mark
            return row, lambda: floor.carry(*row[1:8]), done(web, row), mark
        if kind == "lift" and web.bundles:
            u, v, length, coat, count = rng.choice(web.bundles)
            count = rng.randint(1, count)
            left = [bundle for bundle in web.bundles if bundle[:4] != (u, v, length, coat)]
            more = {bundle[:4]: bundle[4] for bundle in web.bundles}[u, v, length, coat] - count
            after = Web(web.n, web.wheel, web.coats, web.rule, tuple(sorted(left + [(u, v, length, coat, more)] * (more > 0))))
            return ("lift", u, v, length, coat, count), lambda: floor.lift(u, v, length, coat, count), after, mark
        if kind == "lay" and len(web.bundles) < 30:
            u, v = sorted(rng.sample(range(web.n), 2))
            length, coat, count = rng.randint(0, max(web.wheel - 1, 0)), rng.randrange(web.coats), rng.randint(1, 3)
            after = made_web(web.n, web.wheel, web.coats, web.rule, (*web.bundles, (u, v, length, coat, count))[-30:])
            return ("lay", u, v, length, coat, count), lambda: floor.lay(u, v, length, coat, count), after, mark
        return ("mark",), floor.mark, web, web

    def test_beside_a_plain_floor(self):
        rng = random.Random(32)
        for _ in range(40):
            web = random_web(
                rng, n=rng.randint(3, 6), wheel=rng.choice((0, 1, 5, 12)), coats=rng.randint(1, 3),
                rule=rng.choice(("all", "others", "own")), bundles=rng.randint(0, 8), counts=(1, 2, 5),
            )
            floor, plain = Floor(web), PlainFloor(web)
            for _ in range(rng.randint(5, 80)):
                chance = rng.random()
                if chance < 0.25 and plain.at:
                    floor.undo()
                    plain.at -= 1
                elif chance < 0.45 and plain.at < len(plain.rows):
                    floor.redo()
                    plain.at += 1
                elif chance < 0.55:
                    with self.assertRaises(Refused):
                        floor.carry(0, 1, 0, 9, 2, 0, 0)
                else:
                    row, do, after, mark = self.random_deed(rng, floor)
                    do()
                    plain.stand(row, after, mark)
                self.assert_state(floor, *plain.states[plain.at], plain.standing())
                since = plain.standing()
                since = since[max([at for at, row in enumerate(since) if row == ("mark",)], default=-1) + 1:]
                if not any(row[0] in ("lay", "lift") for row in since):
                    self.assertIs(can_go_home(floor), True)

    def test_floors_are_apart(self):
        one, other = Floor(start()), Floor(start())
        one.lay(0, 3, 0, 0, 1)
        self.assert_state(other, start(), start(), ())


class FloorAsksTest(unittest.TestCase):
    def test_a_floor_that_can_go_home(self):
        floor = Floor(start())
        self.assertIs(can_go_home(floor), True)
        self.assertEqual(way_home(floor), ())
        floor.carry(0, 1, 1, 0, 2, 2, 1, j=2)
        self.assertIs(can_go_home(floor=floor), True)
        self.assertEqual(way_home(floor), run_between(floor.web(), floor.marked()))
        self.assertIs(run_right(floor.web(), way_home(floor=floor), floor.marked()), True)
        assert_refused(self, NotJoined, 1, why_not, floor)
        self.assertEqual(kin(floor), class_size(floor.web()))

    def test_a_floor_that_cannot_go_home(self):
        floor = Floor(start())
        floor.lay(0, 2, 2, 0, 1)
        self.assertIs(can_go_home(floor), False)
        assert_refused(self, NotJoined, 0, way_home, floor)
        self.assertEqual(why_not(floor), parting(floor.web(), floor.marked()))
        self.assertIs(parting_right(floor.web(), floor.marked(), why_not(floor=floor)), True)
        floor.mark()
        self.assertIs(can_go_home(floor), True)
        floor.undo()
        floor.undo()
        self.assertIs(can_go_home(floor), True)

    def test_kin(self):
        great = Floor(made_web(3, 1000, 1, "all", ((0, 1, 0, 0, 61), (0, 1, 1, 0, 1), (1, 2, 0, 0, 1))))
        assert_refused(self, TooMany, 3000, kin, great)
        endless = Floor(made_web(3, 0, 1, "all", ((0, 1, 0, 0, 2), (0, 1, 1, 0, 1), (1, 2, 0, 0, 1))))
        self.assertIsNone(kin(floor=endless))

    def test_webs_that_are_not_handy(self):
        threads = tuple((0, 1, length, 0, 2) for length in range(29)) + ((0, 2, 0, 0, 1),)
        floor = Floor(made_web(3, 1000, 1, "all", threads))
        floor.carry(1, 0, 0, 0, 2, 0, 0)
        self.assertFalse(handy(floor.web()))
        assert_refused(self, Wide, 0, way_home, floor)
        floor.mark()
        assert_refused(self, Wide, 0, way_home, floor)
        floor.carry(1, 2, 0, 0, 0, 0, 0)
        self.assertTrue(handy(floor.web()))
        assert_refused(self, Wide, 1, way_home, floor)
        self.assertIs(can_go_home(floor), True)
        self.assertIs(joined(floor.web(), floor.marked()), True)


if __name__ == "__main__":
    unittest.main()
