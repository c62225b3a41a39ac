"""Point [33]: the floor in words."""

import random
import re
import unittest

from carriedends.classsize import class_size
from carriedends.errors import (
    BadBundle, BadCount, BadDeed, BadRow, NothingToRedo, NothingToUndo, NotJoined, TooMany, Wide,
)
from carriedends.floor import Floor
from carriedends.floorasks import why_not
from carriedends.judged import run_right
from carriedends.runs import offers
from carriedends.runtext import run_of, text_of_run
from carriedends.saysfloor import answer, asked
from carriedends.webs import Web, handy, made_web
from carriedends.webtext import text_of_web
from tests.helping import assert_refused, assert_same, random_web
from tests.plaintexts import LENGTH, NUMBER, SIGNS, is_deed_row, spoilt

QUESTIONS = ("web", "made", "home")
ASKED = ("way", "why", "kin")


def start():
    return made_web(4, 5, 2, "all", ((0, 1, 1, 0, 3), (1, 2, 2, 1, 1)))


def is_row(row):
    """Whether a row is one of `answer`, told a second time."""
    if row in QUESTIONS + ("mark", "undo", "redo"):
        return True
    return is_deed_row(row) or bool(re.fullmatch(f"(lay|lift) {NUMBER} {NUMBER} {LENGTH} {NUMBER} {NUMBER}", row))


class AnswerTest(unittest.TestCase):
    def test_deeds(self):
        floor, same = Floor(start()), Floor(start())
        for row, do in (
            ("carry 0 1 1 0 2 2 1 2", lambda: same.carry(0, 1, 1, 0, 2, 2, 1, j=2)),
            ("round 1 2 2 1 0 2 0 3 0 1 40", lambda: same.around(1, 2, 2, 1, 0, 2, 0, 3, 0, q=40)),
            ("lay 3 0 2 1 7", lambda: same.lay(3, 0, 2, 1, 7)), ("mark", same.mark), ("lift 0 3 3 1 6", lambda: same.lift(0, 3, 3, 1, 6)),
            ("undo", same.undo), ("undo", same.undo), ("redo", same.redo),
        ):
            assert_same(self, answer(floor, row), "ok")
            self.assertIsNone(do())
            self.assertEqual((floor.web(), floor.marked(), floor.record()), (same.web(), same.marked(), same.record()))
        assert_same(self, answer(row="made", floor=floor), "82")

    def test_lengths_with_a_minus(self):
        floor = Floor(made_web(3, 0, 1, "all", ((0, 1, -7, 0, 1), (1, 2, 4, 0, 1))))
        for row in ("carry 0 1 -7 0 2 4 0 1", "carry 0 2 -3 0 1 -4 0 1", "round 0 1 -7 0 2 4 0 -4 0 1 1", "lay 0 1 -2 0 1",
                    "lift 1 0 2 0 1"):
            self.assertEqual(answer(floor, row), "ok")
        floor = Floor(start())
        # Whatever the wheel: then it is a matter of the deed.
        assert_refused(self, BadDeed, 0, answer, floor, "carry 0 1 -4 0 2 2 1 1")
        assert_refused(self, BadDeed, 0, answer, floor, "carry 0 1 1 0 2 -3 1 1")
        assert_refused(self, BadDeed, 0, answer, floor, "round 0 1 1 0 2 2 1 -2 1 1 1")
        assert_refused(self, BadBundle, 0, answer, floor, "lay 0 1 -4 0 1")
        assert_refused(self, BadBundle, 0, answer, floor, "lift 0 1 -4 0 1")

    def test_errors_of_deeds(self):
        floor = Floor(start())
        for row, error, what in (
            ("undo", NothingToUndo, 0), ("redo", NothingToRedo, 0), ("carry 0 1 0 0 2 2 1 1", BadDeed, 2),
            ("carry 0 1 1 0 2 2 1 4", BadDeed, 2), ("carry 0 1 1 0 9 2 1 4", BadDeed, 1), ("round 0 1 1 0 2 2 1 2 1 1 1", BadDeed, 3),
            ("lay 0 1 0 0 0", BadBundle, 0), ("lift 0 1 1 0 0", BadBundle, 0), ("lay 0 1 0 0 1000000000", BadCount, 10 ** 9 + 4),
            ("lift 0 1 1 0 4", BadCount, 4), ("lay 0 1 0 2 1", BadBundle, 0), ("lay 0 1 0 0 " + "9" * 40, BadBundle, 0),
        ):
            assert_refused(self, error, what, answer, floor, row)
        self.assertEqual(floor.record(), ())
        for _ in range(300):
            self.assertEqual(answer(floor, "mark"), "ok")
        assert_refused(self, TooMany, 301, answer, floor, "mark")
        assert_refused(self, TooMany, 301, answer, floor, "lay 0 1 0 0 1")

    def test_questions(self):
        floor = Floor(start())
        assert_same(self, answer(floor, "web"), "web 4 5 2 all;thread 0 1 1 0 3;thread 1 2 2 1 1")
        assert_same(self, answer(floor, "made"), "0")
        assert_same(self, answer(floor, "home"), "yes")
        answer(floor, "carry 0 1 1 0 2 2 1 3")
        assert_same(self, answer(floor, "made"), "3")
        assert_same(self, answer(floor, "home"), "yes")
        answer(floor, "lift 1 2 2 1 1")
        assert_same(self, answer(floor, "web"), "web 4 5 2 all;thread 0 2 3 0 3")
        assert_same(self, answer(floor, "home"), "no")
        self.assertEqual(len(floor.record()), 2)
        assert_same(self, answer(Floor(made_web(1, 0, 1, "own", ())), "web"), "web 1 0 1 own")

    def test_web_that_is_not_handy(self):
        floor = Floor(made_web(3, 0, 1, "all", ((0, 1, 10 ** 12 - 1, 0, 1), (1, 2, 1, 0, 1))))
        answer(floor, "carry 0 1 999999999999 0 2 1 0 1")
        assert_refused(self, Wide, 0, answer, floor, "web")
        assert_refused(self, Wide, 0, asked, floor, "way")
        self.assertEqual(answer(floor, "home"), "yes")

    def test_rows_that_are_none(self):
        floor = Floor(start())
        for row in (
            "", " ", "way", "why", "kin", "mark ", " mark", "Mark", "mark\n", "undo 1", "carry", "carry 0 1 1 0 2 2 1",
            "carry 0 1 1 0 2 2 1 0", "carry 0 1 1 0 2 2 1 01", "carry 0 1 1 0 2 2 1 1 ", "carry 0  1 1 0 2 2 1 1",
            "carry 0 1 1 0 2 2 1 1 1", "carry 0 -1 1 0 2 2 1 1", "carry 0 1 -0 0 2 2 1 1", "around 0 1 1 0 2 2 1 3 1 1 1",
            "round 0 1 1 0 2 2 1 3 1 1", "round 0 1 1 0 2 2 1 3 1 0 1", "round 0 1 1 0 2 2 1 3 1 1 0", "lay 0 1 0 0",
            "lay 0 1 0 0 1 1", "lay 0 1 0 0 -1", "lay 0 1 0 -0 1", "lay 0 1 0 0 00", "lay 0 1 0 0 1" + "0" * 40, "lay  0 1 0 0 1",
            "lift 0 1 0 0 x", "lift", "lay", "mark;mark", "web;", "carry 0 1 1 0 2 2 1 1\ncarry 0 1 1 0 2 2 1 1", "lay 0 1 \u0660 0 1",
            "thread 0 1 0 0 1", "made home",
        ):
            self.assertFalse(is_row(row), row)
            assert_refused(self, BadRow, row, answer, floor, row)
        self.assertEqual(floor.record(), ())

    def test_spoilt_rows(self):
        for text in ("carry 0 1 1 0 2 2 1 3", "round 0 1 1 0 2 2 1 3 1 1 2", "lay 0 1 1 0 10", "lift 0 1 1 0 2", "undo", "web"):
            for row in spoilt(text, SIGNS):
                floor = Floor(start())
                try:
                    answer(floor, row)
                except BadRow as error:
                    self.assertEqual(error.what, row)
                    self.assertFalse(is_row(row), row)
                except (BadDeed, BadBundle, BadCount, NothingToUndo):
                    self.assertTrue(is_row(row), row)
                else:
                    self.assertTrue(is_row(row), row)

    def test_runs_row_by_row(self):
        rng = random.Random(33)
        for _ in range(30):
            web = random_web(rng, n=4, wheel=rng.choice((0, 7)), coats=2, rule=rng.choice(("all", "others", "own")), bundles=5)
            floor = Floor(web)
            for _ in range(10):
                there = offers(floor.web())
                if there:
                    self.assertEqual(answer(floor, text_of_run((rng.choice(there),))), "ok")
            self.assertEqual(answer(floor, "made"), str(len(floor.record())))
            self.assertEqual(answer(floor, "home"), "yes")
            if handy(floor.web()):
                self.assertEqual(answer(floor, "web"), text_of_web(floor.web()).replace("\n", ";"))
                way = asked(floor, "way")
                self.assertIs(run_right(floor.web(), run_of(way.replace(";", "\n")), web), True)


class AskedTest(unittest.TestCase):
    def floor(self, n, wheel, coats, rule, *bundles):
        return Floor(made_web(n, wheel, coats, rule, bundles))

    def test_rows_that_are_none(self):
        floor = Floor(start())
        for row in ("", "way ", "Way", "kin\n", "mark", "undo", "web", "home", "made", "lay 0 1 0 0 1", "carry 0 1 1 0 2 2 1 1"):
            assert_refused(self, BadRow, row, asked, floor, row)
        for row in ASKED:
            assert_refused(self, BadRow, row, answer, floor, row)

    def test_way(self):
        floor = Floor(start())
        assert_same(self, asked(floor, "way"), "")
        floor.carry(0, 1, 1, 0, 2, 2, 1)
        found = asked(row="way", floor=floor)
        self.assertNotIn("\n", found)
        self.assertIs(run_right(floor.web(), run_of(found.replace(";", "\n")), start()), True)
        floor.lay(0, 3, 0, 0, 1)
        assert_refused(self, NotJoined, 0, asked, floor, "way")

    def test_why(self):
        floor = self.floor(3, 8, 1, "all", (0, 1, 0, 0, 1), (1, 2, 0, 0, 1), (0, 2, 1, 0, 1))
        assert_refused(self, NotJoined, 1, asked, floor, "why")
        for undo, rows, due in (
            (0, ("lift 0 2 1 0 1", "lay 0 2 3 0 1"), "ring (0,1,2)"),
            (2, ("lift 0 2 1 0 1", "lay 0 2 2 0 1"), "height (0,1,2) 2 (0,0,0)"),
            (2, ("lay 0 2 1 0 1",), "coat (0,1,2) 0"), (1, ("lift 0 2 1 0 1", "lift 0 1 0 0 1"), "lot (0)"),
        ):
            for _ in range(undo):
                answer(floor, "undo")
            for row in rows:
                answer(floor, row)
            assert_same(self, asked(floor, "why"), due)
        floor = self.floor(2, 3, 1, "all", (0, 1, 0, 0, 1))
        answer(floor, "lay 0 1 2 0 1")
        assert_same(self, asked(floor, "why"), "stuck (0,1)")

    def test_why_under_own(self):
        floor = self.floor(3, 0, 2, "own", (0, 1, 4, 1, 1), (1, 2, 5, 1, 1))
        answer(floor, "lift 0 1 4 1 1")
        assert_same(self, asked(floor, "why"), "lot (0) own 1")
        answer(floor, "lay 0 1 -6 1 1")
        assert_same(self, asked(floor, "why"), "height (0,1,2) 0 (0,-6,-1) own 1")
        answer(floor, "lay 0 1 0 0 1")
        assert_same(self, asked(floor, "why"), "lot (0,1) own 0")

    def test_kin(self):
        assert_same(self, asked(self.floor(4, 1, 1, "all", (0, 1, 0, 0, 1), (1, 2, 0, 0, 1), (2, 3, 0, 0, 1)), "kin"), "16")
        assert_same(self, asked(Floor(made_web(1, 0, 1, "all", ())), "kin"), "1")
        floor = self.floor(3, 0, 1, "all", (0, 1, 0, 0, 1), (0, 1, 4, 0, 1), (1, 2, 5, 0, 1))
        assert_same(self, asked(floor, "kin"), "endless")
        floor = self.floor(3, 1000, 1, "all", (0, 1, 0, 0, 61), (0, 1, 1, 0, 1), (1, 2, 0, 0, 1))
        assert_refused(self, TooMany, 3000, asked, floor, "kin")

    def test_great_kin(self):
        # The classes of these webs grow with the number of threads: one has fewer than 4001 digits, the other has not.
        found = set()
        for count in (10 ** 4, 10 ** 5, 10 ** 6, 10 ** 8, 2 * 10 ** 8):
            path = tuple((place, place + 1, 0, coat, count) for place in range(19) for coat in range(4))[:30]
            web = made_web(20, 2, 4, "all", path[:4] + tuple((place, place + 1, 0, 0, 1) for place in range(1, 19)))
            size = class_size(web)
            told = asked(Floor(web), "kin")
            self.assertEqual(told, "great" if size >= 10 ** 4000 else str(size))
            found.add(told == "great")
        self.assertEqual(found, {False, True})

    def test_lengths_that_rounds_make_great(self):
        floor = self.floor(3, 0, 1, "all", (0, 1, 0, 0, 1), (0, 2, 0, 0, 1))
        answer(floor, "lay 0 1 1 0 1")
        answer(floor, "lay 0 2 1 0 1")
        # The two spare threads go round one another, so that their lengths grow by forty digits each time.
        lengths, q = {1: 1, 2: 1}, 10 ** 40 - 1
        for turn in range(102):
            u, x = (1, 2) if turn % 2 else (2, 1)
            floor.around(u, 0, -lengths[u], 0, x, 0, 0, -lengths[x], 0, q=q)
            lengths[u] += q * lengths[x]
            if turn == 3:
                self.assertEqual(asked(floor, "why"), "coat (0,1,2) 0")
        for u in (1, 2):
            answer(floor, f"lift 0 {u} 0 0 1")
        # The mark is the tree with the lengths 0, the web one with great lengths.
        self.assertEqual(why_not(floor), ("height", (0, 1, 2), 0, (0, lengths[1], lengths[2])))
        self.assertGreater(lengths[1], 10 ** 4000)
        assert_same(self, asked(floor, "why"), "great")
        assert_refused(self, Wide, 0, asked, floor, "way")
        self.assertEqual(asked(floor, "kin"), "3")
        self.assertEqual(answer(floor, "home"), "no")
        self.assertEqual(answer(floor, "made"), str(102 * 2 * q))

    def test_numbers_of_4000_digits(self):
        most = 10 ** 4000 - 1
        for length, due in (
            (most, f"height (0,1,2) 0 (0,{most},1)"), (-most, f"height (0,1,2) 0 (0,-{most},1)"), (most + 1, "great"),
            (-most - 1, "great"), (10 ** 9000, "great"),
        ):
            floor = Floor(Web(3, 0, 1, "all", ((0, 1, length, 0, 1), (0, 2, 0, 0, 1))))
            answer(floor, "lift 0 2 0 0 1")
            self.assertEqual(asked(floor, "why"), "lot (0,1)")
            answer(floor, "lay 0 2 1 0 1")
            assert_same(self, asked(floor, "why"), due)


if __name__ == "__main__":
    unittest.main()
