"""Point [11]: spare threads that walk, and threads that go round."""

import random
import unittest

from carriedends.errors import BadCount
from carriedends.rings import round_deed
from carriedends.runs import walked
from carriedends.spares import walk_deeds
from carriedends.threads import laid
from carriedends.webs import made_web
from tests.helping import assert_refused, assert_same


def bare(wheel, length):
    return length % wheel if wheel else length


class Gathered:
    """The frame of a gathered web, and its threads by their places and lengths from s."""

    def __init__(self, wheel, n, s):
        self.wheel, self.n, self.s = wheel, n, s

    def thread(self, place, length, coat):
        return (*laid(self.s, place, bare(self.wheel, length), coat, self.wheel), 1)

    def web(self, *threads):
        """A web of threads (place, length from s, coat)."""
        return made_web(self.n, self.wheel, 3, "others", tuple(self.thread(*thread) for thread in threads))


class WalkTest(unittest.TestCase):
    def test_example(self):
        deeds = walk_deeds(7, 0, 1, 2, 0, 2, 3, 0, 6, 1)
        assert_same(self, deeds, (("carry", 1, 0, 1, 1, 2, 3, 0, 1), ("carry", 2, 1, 3, 1, 0, 5, 0, 1)))
        frame = Gathered(7, 3, 0)
        before = frame.web((1, 2, 0), (2, 3, 0), (1, 6, 1))
        self.assertEqual(walked(before, deeds), frame.web((1, 2, 0), (2, 3, 0), (2, 6, 1)))

    def test_wheel_0_and_great_lengths(self):
        assert_same(self, walk_deeds(0, 3, 1, 2, 0, 2, -3, 1, 6, 2), (
            ("carry", 1, 3, -6, 2, 2, -3, 1, 1), ("carry", 2, 1, 9, 2, 3, -2, 0, 1),
        ))
        great = 7 * 10 ** 50
        self.assertEqual(
            walk_deeds(7, 0, 1, 2 + great, 0, 2, 3 - great, 0, 6 + great, 1), walk_deeds(7, 0, 1, 2, 0, 2, 3, 0, 6, 1)
        )

    def test_names(self):
        named = walk_deeds(wheel=7, s=0, x=1, hx=2, cx=0, y=2, hy=3, cy=0, length=6, coat=1)
        self.assertEqual(named, walk_deeds(7, 0, 1, 2, 0, 2, 3, 0, 6, 1))

    def test_what_it_does(self):
        """The excess r at x becomes -r at y."""
        chance = random.Random(14)
        for _ in range(200):
            wheel, n = chance.choice((0, 1, 2, 7, 12)), chance.randint(3, 6)
            s, x, y = chance.sample(range(n), 3)
            frame = Gathered(wheel, n, s)
            hx, hy, r = (chance.randint(-30, 30) for _ in range(3))
            coat = chance.randrange(3)
            cx, cy = (chance.choice([c for c in range(3) if c != coat]) for _ in range(2))
            rest = [(place, chance.randint(0, 5), chance.randrange(3)) for place in range(n) if place != s]
            before = frame.web((x, hx, cx), (y, hy, cy), (x, hx + r, coat), *rest)
            after = frame.web((x, hx, cx), (y, hy, cy), (y, hy - r, coat), *rest)
            self.assertEqual(walked(before, walk_deeds(wheel, s, x, hx, cx, y, hy, cy, hx + r, coat)), after)


class RoundTest(unittest.TestCase):
    def test_examples(self):
        frame = Gathered(7, 3, 0)
        before = frame.web((2, 3, 1), (1, 2, 0), (1, 6, 0))
        deed = round_deed(7, 0, 2, 3, 1, 1, 2, 0, 6, 0, q=2)
        assert_same(self, deed, ("round", 2, 0, 4, 1, 1, 2, 0, 1, 0, 1, 2))
        self.assertEqual(walked(before, (deed,)), frame.web((2, 4, 1), (1, 2, 0), (1, 6, 0)))
        deed = round_deed(7, 0, 2, 3, 1, 1, 2, 0, 6, 0, q=-2)
        assert_same(self, deed, ("round", 2, 0, 4, 1, 1, 6, 0, 5, 0, 1, 2))
        self.assertEqual(walked(before, (deed,)), frame.web((2, 2, 1), (1, 2, 0), (1, 6, 0)))

    def test_once(self):
        assert_same(
            self, round_deed(7, 0, 2, 3, 1, 1, 2, 0, 6, 0), ("round", 2, 0, 4, 1, 1, 2, 0, 1, 0, 1, 1)
        )

    def test_coats_and_wheel_0(self):
        assert_same(
            self, round_deed(0, 5, 4, 30, 2, 3, 20, 1, -60, 0, q=7),
            ("round", 4, 5, -30, 2, 3, 20, 1, 60, 0, 1, 7),
        )
        assert_same(
            self, round_deed(0, 5, 4, 30, 2, 3, 20, 1, -60, 0, q=-7),
            ("round", 4, 5, -30, 2, 3, -60, 0, -20, 1, 1, 7),
        )

    def test_no_round(self):
        assert_refused(self, BadCount, 0, round_deed, 7, 0, 2, 3, 1, 1, 2, 0, 6, 0, q=0)

    def test_q_is_not_limited(self):
        assert_same(
            self, round_deed(7, 0, 2, 3, 1, 1, 2, 0, 6, 0, q=10 ** 60),
            ("round", 2, 0, 4, 1, 1, 2, 0, 1, 0, 1, 10 ** 60),
        )
        assert_same(
            self, round_deed(7, 0, 2, 3, 1, 1, 2, 0, 6, 0, q=-10 ** 60),
            ("round", 2, 0, 4, 1, 1, 6, 0, 5, 0, 1, 10 ** 60),
        )

    def test_great_lengths(self):
        great = 7 * 10 ** 50
        for q in (2, -2):
            self.assertEqual(
                round_deed(7, 0, 2, 3 - great, 1, 1, 2 + great, 0, 6 - great, 0, q=q),
                round_deed(7, 0, 2, 3, 1, 1, 2, 0, 6, 0, q=q),
            )

    def test_names(self):
        named = round_deed(wheel=7, s=0, z=2, l=3, c=1, x=1, hx=2, cx=0, length=6, coat=0, q=2)
        self.assertEqual(named, round_deed(7, 0, 2, 3, 1, 1, 2, 0, 6, 0, q=2))
        self.assertRaises(TypeError, round_deed, 7, 0, 2, 3, 1, 1, 2, 0, 6, 0, 2)

    def test_what_it_does(self):
        """The length l becomes l + q r."""
        chance = random.Random(15)
        for _ in range(200):
            wheel, n = chance.choice((0, 1, 2, 7, 12)), chance.randint(3, 6)
            s, x, z = chance.sample(range(n), 3)
            frame = Gathered(wheel, n, s)
            hx, l, r = (chance.randint(-30, 30) for _ in range(3))
            c = chance.randrange(3)
            cx, coat = (chance.choice([k for k in range(3) if k != c]) for _ in range(2))
            q = chance.choice((1, 2, 5, 10 ** 30)) * chance.choice((1, -1))
            if wheel == 0:
                q = chance.choice((1, -1)) * chance.randint(1, 50)
            rest = [(place, chance.randint(0, 5), chance.randrange(3)) for place in range(n) if place != s]
            before = frame.web((z, l, c), (x, hx, cx), (x, hx + r, coat), *rest)
            after = frame.web((z, l + q * r, c), (x, hx, cx), (x, hx + r, coat), *rest)
            self.assertEqual(walked(before, (round_deed(wheel, s, z, l, c, x, hx, cx, hx + r, coat, q=q),)), after)


if __name__ == "__main__":
    unittest.main()
