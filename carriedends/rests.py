"""The wheel: rests, measures, and what is least by them."""

from math import gcd

from carriedends.errors import BadWheel

GREATEST_WHEEL = 1_000_000


def check_wheel(M):
    """Raise BadWheel(M) unless M is a wheel."""
    if not 0 <= M <= GREATEST_WHEEL:
        raise BadWheel(M)


def remainder(x, m):
    """Return what x leaves by m, or x itself for m = 0.

    Unlike a wheel, the measure of a lot has no greatest value, so m is not checked here.
    """
    return x % m if m else x


def rest(x, M):
    """Return x as a length of the wheel M."""
    check_wheel(M)
    return remainder(x, M)


def measure(M, numbers):
    """Return the greatest common divisor of M and all the numbers, 0 if all are 0."""
    check_wheel(M)
    common = M
    for number in numbers:
        common = gcd(common, number)
    return common


def lesser(x, M):
    """Return the smaller one of the rests of x and -x, for M = 0 the absolute value of x."""
    check_wheel(M)
    if M == 0:
        return abs(x)
    return min(remainder(x, M), remainder(-x, M))


def scaled(d, M):
    """Return the least x >= 0 for which x * d leaves by M the same rest as measure(M, (d,))."""
    check_wheel(M)
    if M == 0:
        raise BadWheel(M)
    # Euclid's algorithm: each pair (value, times) has value = times * d by M.
    value, times = remainder(d, M), 1
    next_value, next_times = M, 0
    while next_value:
        quotient = value // next_value
        value, next_value = next_value, value - quotient * next_value
        times, next_times = next_times, times - quotient * next_times
    return remainder(times, M // value)
