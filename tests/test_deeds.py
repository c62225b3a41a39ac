"""Points [6] and [8]: slides of deeds, and deeds and runs turned back."""

import random
import unittest

from carriedends.deeds import back_of, carry_along, how_many, is_deed, lengths_of, slides_of, turned
from carriedends.errors import BadWheel
from tests.helping import assert_refused, assert_same

CARRY = ("carry", 4, 2, 3, 1, 0, 6, 5, 9)
ROUND = ("round", 4, 2, 3, 1, 0, 6, 5, 2, 8, 9, 7)


class BackTest(unittest.TestCase):
    def test_carry(self):
        assert_same(self, back_of(7, CARRY), ("carry", 4, 0, 2, 1, 2, 1, 5, 9))
        assert_same(self, back_of(0, CARRY), ("carry", 4, 0, 9, 1, 2, -6, 5, 9))
        assert_same(self, back_of(0, ("carry", 0, 1, -5, 0, 2, 5, 0, 1)), ("carry", 0, 2, 0, 0, 1, -5, 0, 1))
        assert_same(self, back_of(1, ("carry", 0, 1, 0, 0, 2, 0, 1, 1)), ("carry", 0, 2, 0, 0, 1, 0, 1, 1))

    def test_round(self):
        # 3 + 7 * (6 + 2) is 59.
        assert_same(self, back_of(10, ROUND), ("round", 4, 2, 9, 1, 0, 8, 8, 4, 5, 9, 7))
        assert_same(self, back_of(0, ROUND), ("round", 4, 2, 59, 1, 0, -2, 8, -6, 5, 9, 7))

    def test_great_numbers(self):
        deed = ("round", 0, 1, 10 ** 60, 0, 2, 10 ** 50, 0, 1, 0, 10 ** 9, 10 ** 40 - 1)
        final = 10 ** 60 + (10 ** 40 - 1) * (10 ** 50 + 1)
        due = ("round", 0, 1, final, 0, 2, -1, 0, -10 ** 50, 0, 10 ** 9, 10 ** 40 - 1)
        assert_same(self, back_of(0, deed), due)

    def test_twice_back(self):
        chance = random.Random(8)
        for _ in range(200):
            wheel = chance.choice((0, 1, 2, 9, 10 ** 6))

            def length():
                return chance.randrange(-99, 99) if wheel == 0 else chance.randrange(wheel)

            u, v, w = chance.sample(range(20), 3)
            carry = ("carry", u, v, length(), 0, w, length(), 1, chance.randint(1, 9))
            twice = ("round", u, v, length(), 0, w, length(), 1, length(), 2, 3, chance.randint(1, 9))
            for deed in (carry, twice):
                self.assertEqual(back_of(wheel, back_of(wheel, deed)), deed)
                self.assertEqual(slides_of((back_of(wheel, deed),)), slides_of((deed,)))

    def test_bad_wheels(self):
        for wheel in (-1, 10 ** 6 + 1, 10 ** 30):
            assert_refused(self, BadWheel, wheel, back_of, wheel, CARRY)
            assert_refused(self, BadWheel, wheel, back_of, wheel, ROUND)
            assert_refused(self, BadWheel, wheel, turned, wheel, (CARRY,))
            assert_refused(self, BadWheel, wheel, turned, wheel, ())
        back_of(10 ** 6, CARRY)
        turned(10 ** 6, (CARRY,))

    def test_names(self):
        self.assertEqual(back_of(deed=CARRY, wheel=7), back_of(7, CARRY))
        self.assertEqual(turned(run=(CARRY,), wheel=7), turned(7, (CARRY,)))
        self.assertEqual(slides_of(run=(CARRY,)), 9)


class RunTest(unittest.TestCase):
    def test_slides(self):
        assert_same(self, slides_of(()), 0)
        assert_same(self, slides_of((CARRY,)), 9)
        assert_same(self, slides_of((ROUND,)), 2 * 7 * 9)
        assert_same(self, slides_of((CARRY, ROUND, CARRY)), 9 + 126 + 9)
        great = ("round", 0, 1, 0, 0, 2, 0, 0, 0, 0, 10 ** 9, 10 ** 40 - 1)
        assert_same(self, slides_of((great,)), 2 * 10 ** 9 * (10 ** 40 - 1))

    def test_turned(self):
        assert_same(self, turned(7, ()), ())
        first = ("carry", 0, 1, 2, 0, 2, 3, 1, 1)
        assert_same(self, turned(10, (first, ROUND, CARRY)), (
            ("carry", 4, 0, 9, 1, 2, 4, 5, 9),
            ("round", 4, 2, 9, 1, 0, 8, 8, 4, 5, 9, 7),
            ("carry", 0, 2, 5, 0, 1, 7, 1, 1),
        ))
        self.assertEqual(turned(10, turned(10, (first, ROUND, CARRY))), (first, ROUND, CARRY))


class FormTest(unittest.TestCase):
    def test_deeds_by_form(self):
        self.assertIs(is_deed(CARRY), True)
        self.assertIs(is_deed(ROUND), True)
        self.assertIs(is_deed(("carry", -1, -2, -3, -4, -5, -6, -7, 10 ** 99)), True)
        self.assertIs(is_deed(ROUND[:11] + (1,)), True)
        self.assertIs(is_deed(ROUND[:11] + (10 ** 40 - 1,)), True)

    def test_no_deeds_by_form(self):
        for thing in (
            None, 5, "carry", (), ("carry",), ("mark",), CARRY[1:], CARRY[:8], CARRY + (1,), ROUND[:11], ROUND + (1,),
            ("round",) + CARRY[1:], ("carry",) + ROUND[1:], (0,) + CARRY[1:], (None,) + ROUND[1:], ((),) + ROUND[1:],
            ("Carry",) + CARRY[1:], CARRY[:8] + (0,), CARRY[:8] + (-1,), ROUND[:10] + (0, 1), ROUND[:10] + (-5, 1),
            ROUND[:11] + (0,), ROUND[:11] + (-1,), ROUND[:11] + (10 ** 40,), (CARRY,), "carry 0 1",
        ):
            self.assertIs(is_deed(thing), False, thing)
        for deed in (CARRY, ROUND):
            for index in range(1, len(deed)):
                for part in (None, "1", "", (), (1,)):
                    self.assertIs(is_deed(deed[:index] + (part,) + deed[index + 1:]), False)

    def test_parts(self):
        self.assertEqual(lengths_of(CARRY), (3, 6))
        self.assertEqual(lengths_of(ROUND), (3, 6, 2))
        self.assertEqual(how_many(CARRY), 9)
        self.assertEqual(how_many(ROUND), 9)

    def test_carry_along(self):
        self.assertEqual(carry_along(7, 1, (1, 4, 2, 0), (1, 3, 6, 2), 5), ("carry", 4, 1, 5, 0, 3, 6, 2, 5))
        self.assertEqual(carry_along(7, 3, (1, 3, 2, 0), (2, 3, 6, 2), 5), ("carry", 1, 3, 2, 0, 2, 1, 2, 5))
        self.assertEqual(carry_along(0, 3, (1, 3, 2, 0), (2, 3, 6, 2), 5), ("carry", 1, 3, 2, 0, 2, -6, 2, 5))


if __name__ == "__main__":
    unittest.main()
