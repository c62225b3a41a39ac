"""Powers, divisors and signs of divisors."""

import unittest

from carriedends.powers import divisors, mu, power


class PowersTest(unittest.TestCase):
    def test_power(self):
        for base in (0, 1, 2, 10, 1000):
            for exponent in range(20):
                self.assertEqual(power(base, exponent), base ** exponent)
        self.assertEqual(power(1, -1), 1)

    def test_divisors(self):
        for number in range(1, 500):
            self.assertEqual(divisors(number), [d for d in range(1, number + 1) if number % d == 0])
        self.assertEqual(divisors(999983), [1, 999983])
        self.assertEqual(len(divisors(720720)), 240)

    def test_mu(self):
        self.assertEqual([mu(k) for k in range(1, 13)], [1, -1, -1, 0, -1, 1, -1, 0, 0, 1, -1, 0])
        self.assertEqual([mu(30), mu(210), mu(999983), mu(999983 * 2), mu(9 * 999983), mu(10 ** 6)],
                         [-1, 1, -1, 1, 0, 0])
        # The signs of all divisors of a number above 1 add up to 0.
        for number in range(1, 500):
            self.assertEqual(sum(mu(d) for d in divisors(number)), 1 if number == 1 else 0)


if __name__ == "__main__":
    unittest.main()
