"""What several test files need."""


def assert_refused(test, error, what, call, *args, **named):
    """The call must raise just this error, with this `what`."""
    with test.assertRaises(error) as caught:
        call(*args, **named)
    test.assertIs(type(caught.exception), error)
    test.assertEqual(caught.exception.what, what)
    test.assertIs(type(caught.exception.what), type(what))


def is_plain(value, nones):
    """Whether a value is built from tuples, numbers and texts alone, and from None where it may be."""
    if type(value) is tuple:
        return all(is_plain(part, nones) for part in value)
    return type(value) in (int, str) or nones and value is None


def assert_same(test, found, due, *, nones=False):
    """The value must be the one that is due, and be built from tuples, numbers and texts (and None) alone."""
    test.assertEqual(found, due)
    test.assertIs(type(found), type(due))
    test.assertTrue(is_plain(found, nones), found)
