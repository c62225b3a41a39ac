"""Point [0.2]: the error classes and what they keep."""

import unittest

from carriedends import errors
from carriedends.errors import Refused

NAMES = (
    "BadSize", "BadWheel", "BadCoats", "BadRule", "BadBundle", "TooMany", "BadPlace", "BadDeed", "BadRow",
    "BadText", "BadLedger", "Unlike", "NotJoined", "BadPrice", "BadCount", "Wide", "NothingToUndo", "NothingToRedo",
)


class ErrorsTest(unittest.TestCase):
    def test_refused_stands_right_under_value_error(self):
        self.assertEqual(Refused.__bases__, (ValueError,))

    def test_each_stands_under_refused_and_under_no_other(self):
        for name in NAMES:
            with self.subTest(name):
                made = getattr(errors, name)
                self.assertEqual(made.__mro__[:3], (made, Refused, ValueError))

    def test_each_is_defined_in_the_file(self):
        for name in ("Refused",) + NAMES:
            with self.subTest(name):
                self.assertEqual(getattr(errors, name).__module__, "carriedends.errors")
                self.assertEqual(getattr(errors, name).__name__, name)

    def test_what_is_kept_as_it_is(self):
        for name in ("Refused",) + NAMES:
            for what in (0, -7, 10 ** 5000, "wheel", None, ("undo", 3)):
                with self.subTest(name, what=type(what)):
                    self.assertIs(getattr(errors, name)(what).what, what)
                    self.assertIs(getattr(errors, name)(what=what).what, what)

    def test_one_argument_is_due(self):
        for name in ("Refused",) + NAMES:
            with self.subTest(name):
                with self.assertRaises(TypeError):
                    getattr(errors, name)()
                with self.assertRaises(TypeError):
                    getattr(errors, name)(1, 2)

    def test_caught_as_value_error(self):
        for name in NAMES:
            with self.subTest(name):
                with self.assertRaises(ValueError):
                    raise getattr(errors, name)(1)
                with self.assertRaises(Refused):
                    raise getattr(errors, name)(1)


if __name__ == "__main__":
    unittest.main()
