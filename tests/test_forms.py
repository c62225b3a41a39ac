"""Point [0.1]: what a number is."""

import unittest

from carriedends.forms import are_numbers, is_number


class NumberTest(unittest.TestCase):
    def test_numbers(self):
        for thing in (0, 1, -1, 10 ** 5000):
            self.assertIs(is_number(thing), True)

    def test_other_things(self):
        for thing in (None, "", "1", (), (1,), True, False):
            self.assertIs(is_number(thing), False)


class NumbersTest(unittest.TestCase):
    def test_tuples_of_just_so_many(self):
        self.assertIs(are_numbers((), 0), True)
        self.assertIs(are_numbers((1, -2), 2), True)
        self.assertIs(are_numbers((1, -2), 1), False)
        self.assertIs(are_numbers((1, -2), 3), False)

    def test_other_things(self):
        for thing in (None, 12, "12", [1, 2], (1, None), ("1", 2), (1, (2,)), ((1, 2),)):
            self.assertIs(are_numbers(thing, 2), False)


if __name__ == "__main__":
    unittest.main()
