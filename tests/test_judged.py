"""Point [7]: runs judged."""

import unittest

from carriedends.judged import run_right
from carriedends.webs import Web, made_web

THERE = ("carry", 0, 1, 1, 0, 2, 2, 1, 1)
BACK = ("carry", 0, 2, 3, 0, 1, 3, 1, 1)
ROUND = ("round", 0, 1, 1, 0, 2, 2, 1, 3, 1, 2, 4)


def start(n=3, wheel=5, coats=2, rule="others"):
    return made_web(n, wheel, coats, rule, ((0, 1, 1, 0, 2), (1, 2, 2, 1, 1)))


def end(n=3, wheel=5, coats=2, rule="others"):
    return made_web(n, wheel, coats, rule, ((0, 1, 1, 0, 1), (0, 2, 3, 0, 1), (1, 2, 2, 1, 1)))


class RunRightTest(unittest.TestCase):
    def test_right(self):
        for run, goal in (
            ((), start()), ((THERE,), end()), ((THERE, BACK), start()), ((ROUND,), start()),
            ((THERE, BACK, THERE), end()), ((ROUND, THERE), end()),
        ):
            self.assertIs(run_right(start(), run, goal), True)
        self.assertIs(run_right(end(), (BACK,), start()), True)
        self.assertIs(run_right(goal=end(), run=(THERE,), web=start()), True)

    def test_wrong_goals(self):
        for run, goal in (
            ((), end()), ((THERE,), start()), ((THERE, THERE), end()), ((THERE, BACK), end()),
            ((THERE,), made_web(3, 5, 2, "others", ((0, 1, 1, 0, 1), (0, 2, 3, 0, 2), (1, 2, 2, 1, 1)))),
            ((THERE,), made_web(3, 5, 2, "others", ((0, 1, 1, 0, 1), (0, 2, 3, 0, 1)))),
        ):
            self.assertIs(run_right(start(), run, goal), False)

    def test_refused_deeds(self):
        for run in (
            (BACK,), (THERE, THERE, THERE), (THERE, BACK, None), (None, THERE), (THERE, None), (THERE, (THERE,)),
            (THERE[:8] + (0,),), (THERE[:8] + (3,),), (THERE[:3] + (6,) + THERE[4:],), (THERE[:7] + (0, 1),),
            (ROUND[:11] + (0,),), (ROUND[:11] + (10 ** 40,),), (ROUND[:9] + (0,) + ROUND[10:],),
        ):
            for goal in (start(), end()):
                self.assertIs(run_right(start(), run, goal), False)
        self.assertIs(run_right(start(rule="own"), (THERE,), end(rule="own")), False)

    def test_a_refused_deed_behind_the_goal(self):
        self.assertIs(run_right(start(), (THERE, None), end()), False)
        self.assertIs(run_right(start(), (THERE, BACK[:8] + (2,)), end()), False)

    def test_values_that_are_no_runs(self):
        deep = ()
        for _ in range(99):
            deep = (deep,)
        for run in (
            None, 0, 1, -5, "", "carry", "carry 0 1 1 0 2 2 1 1", THERE, (THERE, "x"), ("",), (0,), ((),), (None,),
            deep, (deep, deep), (THERE, deep), (THERE[:1] + (deep,) + THERE[2:],), ((deep,) + THERE[1:],),
            (("carry",) + ("1",) * 8,), (("round",) + (None,) * 11,), (("carry",) + (10 ** 5000,) * 8,),
        ):
            for goal in (start(), end()):
                self.assertIs(run_right(start(), run, goal), False)

    def test_webs_that_differ_in_their_frames(self):
        for change in ({"n": 4}, {"wheel": 6}, {"coats": 3}, {"rule": "all"}):
            self.assertIs(run_right(start(), (THERE,), end(**change)), False)
            self.assertIs(run_right(start(**change), (THERE,), end()), False)
            self.assertIs(run_right(start(), (), start(**change)), False)

    def test_how_many_deeds(self):
        self.assertIs(run_right(start(), (THERE, BACK) * 50000, start()), True)
        self.assertIs(run_right(start(), (THERE, BACK) * 50000 + (THERE,), end()), False)
        self.assertIs(run_right(start(), (ROUND,) * 100001, start()), False)
        self.assertIs(run_right(start(), (None,) * (2 * 10 ** 6), start()), False)

    def test_webs_that_are_not_handy(self):
        great = 10 ** 50
        web = Web(3, 0, 1, "all", ((0, 1, great, 0, 10 ** 12), (1, 2, 1, 0, 1)))
        goal = Web(3, 0, 1, "all", ((0, 2, great + 1, 0, 10 ** 12), (1, 2, 1, 0, 1)))
        run = (("carry", 0, 1, great, 0, 2, 1, 0, 10 ** 12),)
        self.assertIs(run_right(web, run, goal), True)
        self.assertIs(run_right(web, run, web), False)

    def test_nothing_is_changed(self):
        web, goal = start(), end()
        run_right(web, (THERE,), goal)
        self.assertEqual(web, start())
        self.assertEqual(goal, end())


if __name__ == "__main__":
    unittest.main()
