"""Point [15]: where runs fail."""

import unittest

from carriedends.errors import TooMany
from carriedends.webs import made_web
from carriedends.yespapers import fixed_at
from tests.helping import assert_refused

THERE = ("carry", 0, 1, 1, 0, 2, 2, 1, 1)
BACK = ("carry", 0, 2, 3, 0, 1, 3, 1, 1)
ROUND = ("round", 0, 1, 1, 0, 2, 2, 1, 3, 1, 2, 4)


def start(rule="others"):
    return made_web(3, 5, 2, rule, ((0, 1, 1, 0, 2), (1, 2, 2, 1, 1)))


class FixedAtTest(unittest.TestCase):
    def test_runs_that_do_not_fail(self):
        for run in ((), (THERE,), (THERE, BACK), (ROUND, THERE, THERE), (ROUND,) * 50):
            self.assertIs(fixed_at(start(), run), None)
        self.assertIs(fixed_at(run=(THERE,), web=start()), None)

    def test_first_refused_deed(self):
        for run, index in (
            ((BACK,), 0), ((THERE, THERE, THERE), 2), ((THERE, BACK, BACK, THERE), 2), ((THERE, ROUND), 1),
            ((THERE, BACK, ROUND, ROUND[:11] + (0,)), 3), ((BACK, BACK), 0),
        ):
            self.assertEqual(fixed_at(start(), run), index)
        self.assertEqual(fixed_at(start("own"), (THERE,)), 0)
        self.assertIs(fixed_at(start("all"), (THERE,)), None)

    def test_deeds_of_any_form(self):
        for deed in (None, 0, "carry", (), THERE[:8], THERE + (1,), (THERE,), (None,) * 9, ("round",) + (None,) * 11):
            self.assertEqual(fixed_at(start(), (deed,)), 0)
            self.assertEqual(fixed_at(start(), (THERE, BACK, deed, THERE)), 2)

    def test_long_runs(self):
        run = (THERE, BACK) * 50000
        self.assertIs(fixed_at(start(), run), None)
        self.assertEqual(fixed_at(start(), run[:-1] + (None,)), 99999)
        assert_refused(self, TooMany, 100001, fixed_at, start(), run + (THERE,))
        assert_refused(self, TooMany, 100001, fixed_at, start(), (None,) * 100001)


if __name__ == "__main__":
    unittest.main()
