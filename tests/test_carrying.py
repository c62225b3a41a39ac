"""Points [3] and [6]: deeds done on webs, and the five faults."""

import unittest

from carriedends.carrying import carried_out, done, fault_of
from carriedends.deeds import back_of
from carriedends.errors import BadDeed
from carriedends.ledger import ledger
from carriedends.webs import Web, counted, made_web
from tests.helping import assert_refused
from tests.plainly import all_bags, lets, single, slid, webbed

# 0 to 1 length 2, 1 to 2 length 3, 2 to 3 length 4, of the coats 0, 1, 0.
BUNDLES = ((0, 1, 2, 0, 3), (1, 2, 3, 1, 2), (2, 3, 4, 0, 1))


def web_of(rule="all", wheel=10, bundles=BUNDLES):
    return made_web(5, wheel, 2, rule, bundles)


def thread_after_rounds(wheel, length, out, back, q):
    """The length after the rounds, gone one by one."""
    for _ in range(q):
        length = length + out + back
    return length % wheel if wheel else length


class CarryTest(unittest.TestCase):
    def test_one_thread(self):
        web = done(web_of(), ("carry", 0, 1, 2, 0, 2, 3, 1, 1))
        self.assertEqual(web, web_of(bundles=((0, 1, 2, 0, 2), (0, 2, 5, 0, 1), (1, 2, 3, 1, 2), (2, 3, 4, 0, 1))))

    def test_many_threads(self):
        web = done(web_of(), ("carry", 0, 1, 2, 0, 2, 3, 1, 3))
        self.assertEqual(web, web_of(bundles=((0, 2, 5, 0, 3), (1, 2, 3, 1, 2), (2, 3, 4, 0, 1))))

    def test_other_end(self):
        # The threads 1 2 have their end at 2 carried to 3, and then at 1 to 0.
        web = done(web_of(), ("carry", 1, 2, 3, 1, 3, 4, 0, 2))
        self.assertEqual(web, web_of(bundles=((0, 1, 2, 0, 3), (1, 3, 7, 1, 2), (2, 3, 4, 0, 1))))
        web = done(web_of(), ("carry", 2, 1, 7, 1, 0, 8, 0, 2))
        self.assertEqual(web, web_of(bundles=((0, 1, 2, 0, 3), (0, 2, 5, 1, 2), (2, 3, 4, 0, 1))))

    def test_lengths_by_the_wheel(self):
        bundles = ((0, 1, 2, 0, 1), (1, 2, 3, 1, 1))
        for wheel, due in ((4, 1), (5, 0), (6, 5), (0, 5), (10 ** 6, 5)):
            web = done(web_of(wheel=wheel, bundles=bundles), ("carry", 0, 1, 2, 0, 2, 3, 1, 1))
            self.assertEqual(web, web_of(wheel=wheel, bundles=((0, 2, due, 0, 1), (1, 2, 3, 1, 1))))
        web = done(web_of(wheel=0, bundles=((0, 1, -2, 0, 1), (1, 2, -3, 1, 1))), ("carry", 2, 1, 3, 1, 0, 2, 0, 1))
        self.assertEqual(web, web_of(wheel=0, bundles=((0, 1, -2, 0, 1), (0, 2, -5, 1, 1))))

    def test_alike_threads_come_together(self):
        bundles = ((0, 1, 2, 0, 3), (0, 2, 5, 0, 4), (1, 2, 3, 1, 2))
        web = done(web_of(bundles=bundles), ("carry", 0, 1, 2, 0, 2, 3, 1, 2))
        self.assertEqual(web, web_of(bundles=((0, 1, 2, 0, 1), (0, 2, 5, 0, 6), (1, 2, 3, 1, 2))))

    def test_all_threads_but_the_rail_at_its_place(self):
        # Rail and carried threads may be of the same coat and length; w is not u.
        bundles = ((0, 1, 0, 0, 1), (1, 2, 0, 0, 1))
        web = done(web_of("own", 1, bundles), ("carry", 0, 1, 0, 0, 2, 0, 0, 1))
        self.assertEqual(web, web_of("own", 1, ((0, 2, 0, 0, 1), (1, 2, 0, 0, 1))))

    def test_no_bounds_of_size(self):
        bundles = ((0, 1, 10 ** 12 - 1, 0, 10 ** 9 - 1), (1, 2, 10 ** 12 - 1, 0, 1))
        web = done(web_of(wheel=0, bundles=bundles), ("carry", 0, 1, 10 ** 12 - 1, 0, 2, 10 ** 12 - 1, 0, 10 ** 9 - 2))
        due = ((0, 1, 10 ** 12 - 1, 0, 1), (0, 2, 2 * 10 ** 12 - 2, 0, 10 ** 9 - 2), (1, 2, 10 ** 12 - 1, 0, 1))
        self.assertEqual(web.bundles, due)
        web = done(web, ("carry", 1, 2, 10 ** 12 - 1, 0, 0, 2 - 2 * 10 ** 12, 0, 1))
        self.assertEqual(web.bundles, ((0, 1, 10 ** 12 - 1, 0, 2), (0, 2, 2 * 10 ** 12 - 2, 0, 10 ** 9 - 2)))

    def test_more_bundles_than_are_handed_in(self):
        bundles = tuple((0, 1, length, 0, 2) for length in range(29)) + ((1, 2, 0, 0, 1),)
        web = web_of(wheel=100, bundles=bundles)
        for length in range(29):
            web = done(web, ("carry", 0, 1, length, 0, 2, 0, 0, 1))
        self.assertEqual(len(web.bundles), 59)

    def test_the_web_is_not_changed(self):
        web = web_of()
        done(web, ("carry", 0, 1, 2, 0, 2, 3, 1, 3))
        self.assertRaises(BadDeed, done, web, ("carry", 0, 1, 2, 0, 2, 3, 0, 3))
        self.assertEqual(web, web_of())

    def test_names(self):
        deed = ("carry", 0, 1, 2, 0, 2, 3, 1, 1)
        self.assertEqual(done(deed=deed, web=web_of()), done(web_of(), deed))

    def test_all_deeds_on_small_webs(self):
        """Each carry deed of one thread on all webs of a few frames does what a slide of single threads does."""
        for n, wheel, coats, many in ((3, 2, 2, 2), (3, 3, 1, 2), (4, 1, 2, 2)):
            deeds = [
                ("carry", u, v, length, coat, w, rail, railcoat, 1)
                for u in range(n) for v in range(n) for w in range(n) for length in range(wheel)
                for rail in range(wheel) for coat in range(coats) for railcoat in range(coats)
            ]
            for rule in ("all", "others", "own"):
                for threads in all_bags(n, wheel, coats, many):
                    web = webbed(n, wheel, coats, rule, threads)
                    told = {("carry", *slide, 1): after for after, slide in slid(wheel, rule, threads)}
                    for deed in deeds:
                        if deed in told:
                            self.assertEqual(single(done(web, deed)), told[deed])
                        else:
                            self.assertRaises(BadDeed, done, web, deed)


class RoundTest(unittest.TestCase):
    BUNDLES = ((0, 1, 2, 0, 3), (1, 2, 3, 1, 1), (1, 2, 5, 1, 1), (1, 2, 6, 0, 1))

    def web_of(self, rule="all", wheel=10, first=((0, 1, 2, 0, 3),)):
        return made_web(3, wheel, 2, rule, first + self.BUNDLES[1:])

    def test_once_and_often(self):
        for wheel, rule, q in ((10, "all", 1), (10, "others", 2), (7, "all", 3), (0, "all", 4), (0, "others", 29)):
            web = self.web_of(rule, wheel)
            # Out by the length 3, back by the length 5: -5 from 2 to 1.
            back = (wheel - 5) if wheel else -5
            length = thread_after_rounds(wheel, 2, 3, back, q)
            deed = ("round", 0, 1, 2, 0, 2, 3, 1, back, 1, 2, q)
            self.assertEqual(done(web, deed), self.web_of(rule, wheel, ((0, 1, 2, 0, 1), (0, 1, length, 0, 2))))
            deed = ("round", 0, 1, 2, 0, 2, 3, 1, back, 1, 3, q)
            self.assertEqual(done(web, deed), self.web_of(rule, wheel, ((0, 1, length, 0, 3),)))

    def test_as_carry_deeds(self):
        web = self.web_of("others")
        by_hand = done(done(web, ("carry", 0, 1, 2, 0, 2, 3, 1, 2)), ("carry", 0, 2, 5, 0, 1, 5, 1, 2))
        self.assertEqual(done(web, ("round", 0, 1, 2, 0, 2, 3, 1, 5, 1, 2, 1)), by_hand)

    def test_from_the_greater_place(self):
        # Threads 1 2 led round from 1 by way of 0: out by the length -2 and back by 7.
        bundles = ((0, 1, 2, 0, 1), (0, 1, 7, 0, 1), (1, 2, 3, 1, 4))
        web = done(made_web(3, 10, 2, "others", bundles), ("round", 2, 1, 7, 1, 0, 8, 0, 7, 0, 3, 1))
        self.assertEqual(web.bundles, ((0, 1, 2, 0, 1), (0, 1, 7, 0, 1), (1, 2, 3, 1, 1), (1, 2, 8, 1, 3)))

    def test_both_rails_the_same_thread(self):
        web = self.web_of("others")
        self.assertEqual(done(web, ("round", 0, 1, 2, 0, 2, 3, 1, 7, 1, 3, 10 ** 40 - 1)), web)

    def test_rounds_that_change_nothing(self):
        self.assertEqual(done(self.web_of(), ("round", 0, 1, 2, 0, 2, 3, 1, 5, 1, 3, 5)), self.web_of())

    def test_great_q(self):
        q = 10 ** 40 - 1
        web = done(self.web_of(wheel=0), ("round", 0, 1, 2, 0, 2, 3, 1, -5, 1, 1, q))
        due = ((0, 1, 2 - 2 * q, 0, 1), (0, 1, 2, 0, 2)) + self.BUNDLES[1:]
        self.assertEqual(web, Web(3, 0, 2, "all", due))
        web = done(self.web_of(wheel=10), ("round", 0, 1, 2, 0, 2, 3, 1, 5, 1, 1, q))
        self.assertEqual(web, self.web_of(first=((0, 1, 2, 0, 2), (0, 1, (2 + 8 * q) % 10, 0, 1))))

    def test_ledgers_stay(self):
        for rule in ("all", "others"):
            web = self.web_of(rule)
            for q in range(1, 12):
                self.assertEqual(ledger(done(web, ("round", 0, 1, 2, 0, 2, 3, 1, 5, 1, 1, q))), ledger(web))


class FaultTest(unittest.TestCase):
    CARRY = ("carry", 0, 1, 2, 0, 2, 3, 1, 1)
    ROUND = ("round", 0, 1, 2, 0, 2, 3, 1, 7, 1, 1, 1)

    def refused(self, code, *deeds, web=None):
        web = web or web_of("others")
        for deed in deeds:
            with self.subTest(deed=deed):
                assert_refused(self, BadDeed, code, done, web, deed)
                self.assertEqual(web.bundles, BUNDLES)

    def changed(self, deed, **parts):
        """The deed with some of its parts, which are named by their indexes, changed."""
        row = list(deed)
        for name, part in parts.items():
            row[int(name[1:])] = part
        return tuple(row)

    def test_granted(self):
        for deed in (self.CARRY, self.ROUND):
            self.assertIsNone(fault_of(web_of("others"), counted(BUNDLES), deed))
            done(web_of("others"), deed)

    def test_0_no_tuple_of_numbers(self):
        self.refused(
            0, None, 0, "carry", (), ("carry",), self.CARRY[:8], self.CARRY + (1,), self.ROUND[:11], self.ROUND + (1,),
            self.changed(self.CARRY, i0="round"), self.changed(self.ROUND, i0="carry"), self.changed(self.CARRY, i0=0),
            self.changed(self.CARRY, i0=None), self.changed(self.ROUND, i0=("round",)), ((self.CARRY,),),
        )
        for deed in (self.CARRY, self.ROUND):
            for index in range(1, len(deed)):
                for part in (None, "0", (0,)):
                    self.refused(0, deed[:index] + (part,) + deed[index + 1:])

    def test_0_bounds(self):
        self.refused(
            0, self.changed(self.CARRY, i8=0), self.changed(self.CARRY, i8=-1), self.changed(self.ROUND, i10=0),
            self.changed(self.ROUND, i10=-3), self.changed(self.ROUND, i11=0), self.changed(self.ROUND, i11=-1),
            self.changed(self.ROUND, i11=10 ** 40), self.changed(self.ROUND, i11=10 ** 41),
        )
        done(web_of("others"), self.changed(self.ROUND, i11=10 ** 40 - 1))

    def test_0_lengths_that_are_no_rests(self):
        for length in (-1, 10, 12, 13, 17, -8, 10 ** 50):
            self.refused(
                0, self.changed(self.CARRY, i3=length), self.changed(self.CARRY, i6=length),
                self.changed(self.ROUND, i3=length), self.changed(self.ROUND, i6=length),
                self.changed(self.ROUND, i8=length),
            )
        # By the wheel 0 every number is a rest.
        web = made_web(5, 0, 2, "others", BUNDLES)
        self.refused(2, self.changed(self.CARRY, i3=-1), self.changed(self.ROUND, i3=10 ** 50), web=web)
        self.refused(3, self.changed(self.CARRY, i6=-1), self.changed(self.ROUND, i8=10 ** 50), web=web)

    def test_1_places(self):
        for index in (1, 2, 5):
            for place in (-1, 5, 10 ** 20):
                self.refused(
                    1, self.changed(self.CARRY, **{f"i{index}": place}),
                    self.changed(self.ROUND, **{f"i{index}": place}),
                )
        for deed in (self.CARRY, self.ROUND):
            self.refused(
                1, self.changed(deed, i1=1), self.changed(deed, i2=0), self.changed(deed, i1=2),
                self.changed(deed, i5=0), self.changed(deed, i2=2), self.changed(deed, i5=1),
                self.changed(deed, i1=1, i5=1),
            )

    def test_2_threads(self):
        self.refused(
            2, self.changed(self.CARRY, i8=4), self.changed(self.CARRY, i8=10 ** 99), self.changed(self.CARRY, i3=8),
            self.changed(self.CARRY, i3=3), self.changed(self.CARRY, i4=1), self.changed(self.CARRY, i4=2),
            self.changed(self.CARRY, i4=-1), self.changed(self.CARRY, i4=10 ** 30), self.changed(self.CARRY, i1=4),
            self.changed(self.ROUND, i10=4), self.changed(self.ROUND, i3=8), self.changed(self.ROUND, i4=1),
            self.changed(self.ROUND, i4=7), self.changed(self.ROUND, i1=3),
        )
        done(web_of("others"), self.changed(self.CARRY, i8=3))
        done(web_of("others"), self.changed(self.ROUND, i10=3))

    def test_3_rails(self):
        self.refused(
            3, self.changed(self.CARRY, i6=7), self.changed(self.CARRY, i6=2), self.changed(self.CARRY, i7=0),
            self.changed(self.CARRY, i7=2), self.changed(self.CARRY, i7=-1), self.changed(self.CARRY, i5=3),
            self.changed(self.CARRY, i5=4), self.changed(self.ROUND, i6=7), self.changed(self.ROUND, i7=0),
            self.changed(self.ROUND, i8=3), self.changed(self.ROUND, i9=0), self.changed(self.ROUND, i9=9),
            self.changed(self.ROUND, i5=3), self.changed(self.ROUND, i6=0, i8=0),
        )

    def test_4_rule(self):
        bundles = ((0, 1, 2, 0, 3), (1, 2, 3, 0, 1), (1, 2, 3, 1, 1))
        for rule in ("all", "others", "own"):
            web = made_web(3, 10, 2, rule, bundles)
            for railcoat in (0, 1):
                deed = self.changed(self.CARRY, i7=railcoat)
                if lets(rule, 0, railcoat):
                    self.assertEqual(len(done(web, deed).bundles), 4)
                else:
                    assert_refused(self, BadDeed, 4, done, web, deed)
                for backcoat in (0, 1):
                    deed = self.changed(self.ROUND, i7=railcoat, i9=backcoat)
                    if lets(rule, 0, railcoat) and lets(rule, 0, backcoat):
                        self.assertEqual(done(web, deed), web)
                    else:
                        assert_refused(self, BadDeed, 4, done, web, deed)

    def test_the_first_fault_is_told(self):
        own = made_web(5, 10, 2, "own", BUNDLES)
        for web in (web_of("others"), own):
            # All faults from the code on; each deed has one fault less than the one before.
            for code, deed in (
                (0, ("carry", 5, 5, 10, 9, 5, 3, 1, 0)),
                (0, ("carry", 5, 5, 10, 9, 5, 3, 1, 1)),
                (1, ("carry", 5, 5, 2, 9, 5, 2, 1, 9)),
                (1, ("carry", 0, 1, 2, 9, 0, 2, 1, 9)),
                (2, ("carry", 0, 1, 2, 9, 2, 2, 1, 9)),
                (2, ("carry", 0, 1, 2, 0, 2, 2, 1, 9)),
                (3, ("carry", 0, 1, 2, 0, 2, 2, 1, 1)),
                (0, ("round", 5, 5, 2, 9, 5, 3, 1, 10, 1, 1, 1)),
                (0, ("round", 5, 5, 2, 9, 5, 3, 1, 7, 1, 1, 0)),
                (1, ("round", 5, 5, 2, 9, 5, 3, 1, 7, 1, 9, 1)),
                (2, ("round", 0, 1, 2, 0, 2, 0, 1, 7, 1, 9, 1)),
                (3, ("round", 0, 1, 2, 0, 2, 0, 1, 7, 1, 1, 1)),
                (3, ("round", 0, 1, 2, 0, 2, 3, 1, 0, 1, 1, 1)),
            ):
                self.refused(code, deed, web=web)
        self.refused(4, self.CARRY, self.ROUND, web=own)

    def test_3_comes_before_4_for_both_rails(self):
        # The rail out is forbidden, the rail back is not there.
        own = made_web(5, 10, 2, "own", BUNDLES)
        self.refused(3, self.changed(self.ROUND, i8=0, i9=0), web=own)
        self.refused(3, self.changed(self.ROUND, i6=0, i7=0), web=own)


class RunTest(unittest.TestCase):
    def test_carried_out(self):
        web, deed = web_of("others"), ("carry", 0, 1, 2, 0, 2, 3, 1, 2)
        counts = counted(web.bundles)
        self.assertIsNone(carried_out(web, counts, (deed, back_of(10, deed))))
        self.assertEqual(counts, counted(BUNDLES))
        self.assertEqual(carried_out(web, counts, (deed, deed, deed)), 1)
        self.assertEqual(carried_out(web, counts, (None,)), 0)
        self.assertIsNone(carried_out(web, counts, ()))


if __name__ == "__main__":
    unittest.main()
