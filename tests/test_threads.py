"""Point [3]: how a thread is laid."""

import unittest

from carriedends.threads import laid
from tests.helping import assert_same


class LaidTest(unittest.TestCase):
    def test_in_order(self):
        assert_same(self, laid(0, 1, 3, 2, 5), (0, 1, 3, 2))
        assert_same(self, laid(4, 19, -3, 0, 0), (4, 19, -3, 0))

    def test_the_other_way_about(self):
        assert_same(self, laid(1, 0, 3, 2, 5), (0, 1, 2, 2))
        assert_same(self, laid(19, 4, 0, 0, 5), (4, 19, 0, 0))
        assert_same(self, laid(2, 1, 0, 3, 1), (1, 2, 0, 3))
        assert_same(self, laid(2, 1, 999999, 0, 10 ** 6), (1, 2, 1, 0))

    def test_wheel_0(self):
        assert_same(self, laid(1, 0, 3, 0, 0), (0, 1, -3, 0))
        assert_same(self, laid(1, 0, -3, 1, 0), (0, 1, 3, 1))
        assert_same(self, laid(1, 0, 0, 1, 0), (0, 1, 0, 1))
        assert_same(self, laid(1, 0, 10 ** 50, 1, 0), (0, 1, -10 ** 50, 1))

    def test_nothing_is_checked(self):
        assert_same(self, laid(1, 0, 3, 0, 10 ** 6 + 1), (0, 1, 10 ** 6 - 2, 0))
        assert_same(self, laid(10 ** 9, 7, 3, 99, 5), (7, 10 ** 9, 2, 99))

    def test_by_name(self):
        self.assertEqual(laid(wheel=7, coat=1, length=3, v=0, u=1), (0, 1, 4, 1))


if __name__ == "__main__":
    unittest.main()
