"""Powers and divisors."""

from math import isqrt


def power(base, exponent):
    """Return the product of as many factors base as the exponent says."""
    result = 1
    for _ in range(exponent):
        result *= base
    return result


def divisors(number):
    """Return the divisors of a number >= 1, ascending."""
    low = [d for d in range(1, isqrt(number) + 1) if number % d == 0]
    high = [number // d for d in reversed(low) if d * d != number]
    return low + high


def mu(number):
    """Return 0 if a square above 1 divides a number >= 1, else 1 or -1 for an even or odd number of prime divisors."""
    sign = 1
    left = number
    d = 2
    while d * d <= left:
        if left % d == 0:
            left //= d
            sign = -sign
            if left % d == 0:
                return 0
        d += 1
    return -sign if left > 1 else sign
