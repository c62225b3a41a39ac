"""What several test files need."""

from carriedends.webs import made_web


def assert_refused(test, error, what, call, *args, **named):
    """The call must raise just this error, with this `what`."""
    with test.assertRaises(error) as caught:
        call(*args, **named)
    test.assertIs(type(caught.exception), error)
    test.assertEqual(caught.exception.what, what)
    test.assertIs(type(caught.exception.what), type(what))


def is_plain(value, nones):
    """Whether a value is built from tuples, numbers and texts alone, and from None where it may be."""
    if type(value) is tuple:
        return all(is_plain(part, nones) for part in value)
    return type(value) in (int, str) or nones and value is None


def assert_same(test, found, due, *, nones=False):
    """The value must be the one that is due, and be built from tuples, numbers and texts (and None) alone."""
    test.assertEqual(found, due)
    test.assertIs(type(found), type(due))
    test.assertTrue(is_plain(found, nones), found)


def random_length(rng, wheel):
    """Some length by the wheel, of which many are small or divisible by small numbers."""
    step = rng.choice((1, 1, 2, 3, 6))
    if wheel == 0:
        bound = rng.choice((3, 100, 10 ** 12 // step - 1))
        return step * rng.randint(-bound, bound)
    return rng.randrange(wheel) // step * step


def random_web(rng, *, n, wheel, coats, rule, bundles, counts=(1, 1, 1, 2, 3, 10 ** 7)):
    """Some web. Often its heights and measures are other ones than those that mere chance would give."""
    heights = [random_length(rng, wheel) for _ in range(n)]
    levelled = rng.random()
    rare = rng.random() < 0.5
    threads = []
    for _ in range(bundles):
        u, v = sorted(rng.sample(range(n), 2))
        length = random_length(rng, wheel)
        if rng.random() < levelled:
            length = heights[v] - heights[u]
        if wheel:
            length %= wheel
        elif abs(length) >= 10 ** 12:
            length //= 2
        coat = 0 if rare and rng.random() < 0.9 else rng.randrange(coats)
        threads.append((u, v, length, coat, rng.choice(counts)))
    return made_web(n, wheel, coats, rule, tuple(threads))
