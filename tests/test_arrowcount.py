"""Point [29]: numbers of bags of arrows that hang together, sizes of classes of arrows."""

import itertools
import unittest

from carriedends.arrowcount import arrow_class_size, connected_arrows
from carriedends.arrowlots import arrow_ledger
from carriedends.arrows import Arrows, made_arrows
from carriedends.choosing import bags
from carriedends.errors import BadCount, BadSize
from tests.helping import assert_refused
from tests.plainarrows import all_arrow_bags, arrow_bagged, classes_of_arrows, hang_together


def plain_connected(outs):
    """All bags in which so many arrows leave the places, each looked at."""
    n = len(outs)
    heads = [
        list(itertools.combinations_with_replacement([(u, v) for v in range(n) if v != u], out))
        for u, out in enumerate(outs)
    ]
    return sum(hang_together(n, [tie for some in picked for tie in some]) for picked in itertools.product(*heads))


class ConnectedTest(unittest.TestCase):
    def test_example(self):
        self.assertEqual(connected_arrows((1, 2, 0)), 5)
        self.assertEqual(connected_arrows(outs=(1, 2, 0)), 5)

    def test_one_place(self):
        self.assertEqual([connected_arrows((out,)) for out in (0, 1, 2, 10 ** 9)], [1, 0, 0, 0])

    def test_two_places(self):
        self.assertEqual(connected_arrows((0, 0)), 0)
        for outs in ((1, 0), (0, 1), (3, 2), (10 ** 9, 0), (10 ** 9, 10 ** 9)):
            self.assertEqual(connected_arrows(outs), 1)

    def test_against_all_bags(self):
        for outs in itertools.product(range(4), repeat=3):
            self.assertEqual(connected_arrows(outs), plain_connected(outs), outs)
        for outs in itertools.product(range(3), repeat=4):
            self.assertEqual(connected_arrows(outs), plain_connected(outs), outs)
        for outs in ((1, 1, 1, 1, 1), (2, 0, 1, 0, 2), (0, 0, 4, 0, 0), (3, 1, 1, 0, 0), (1, 0, 0, 1, 0), (0, 5, 0, 1, 0)):
            self.assertEqual(connected_arrows(outs), plain_connected(outs), outs)

    def test_they_add_up_to_all_bags(self):
        for n, count in ((3, 3), (3, 5), (4, 3)):
            hanging = [arrows for arrows in all_arrow_bags(n, count) if hang_together(n, arrows)]
            outs = [some for some in itertools.product(range(count + 1), repeat=n) if sum(some) == count]
            self.assertEqual(sum(connected_arrows(some) for some in outs), len(hanging))

    def test_great_numbers(self):
        most = 10 ** 9
        # One owner alone: each other place has at least one arrow.
        self.assertEqual(connected_arrows((0, 0, most, 0)), bags(3, most - 3))
        self.assertEqual(connected_arrows((most, 1, 0)), 2 * (most + 1) - 1)
        self.assertGreater(connected_arrows((most,) * 10).bit_length(), 2200)
        self.assertEqual(connected_arrows((9,) + (0,) * 9), 1)
        self.assertEqual(connected_arrows((8,) + (0,) * 9), 0)
        self.assertEqual(connected_arrows((0,) * 10), 0)

    def test_bad_sizes(self):
        for outs in ((), (0,) * 11, (-1,) * 12):
            assert_refused(self, BadSize, len(outs), connected_arrows, outs)

    def test_bad_counts(self):
        most = 10 ** 9
        for outs, index in (
            ((-1,), 0), ((most + 1,), 0), ((0, most, -1, most + 1), 2), ((most, most + 1), 1), ((0,) * 9 + (10 ** 40,), 9),
        ):
            assert_refused(self, BadCount, index, connected_arrows, outs)


class ClassSizeTest(unittest.TestCase):
    def test_all_small_bags(self):
        for n, count in ((1, 0), (2, 3), (3, 2), (3, 3), (3, 4), (3, 5), (4, 3), (4, 4)):
            for together in classes_of_arrows(n, count):
                self.assertEqual(arrow_class_size(arrow_bagged(n, min(together))), len(together))

    def test_products(self):
        bag = made_arrows(10, ((0, 1, 1), (1, 2, 2), (3, 4, 1), (4, 5, 2), (6, 7, 9), (6, 8, 1)))
        self.assertEqual(arrow_class_size(bag), 25)
        self.assertEqual(arrow_class_size(arrows=made_arrows(10, ())), 1)
        self.assertEqual(arrow_class_size(made_arrows(2, ((0, 1, 10 ** 8), (1, 0, 3)))), 1)
        self.assertEqual(arrow_class_size(made_arrows(4, ((2, 0, 10 ** 8), (2, 1, 1), (2, 3, 1)))), 1)

    def test_many_arrows(self):
        bag = made_arrows(3, ((0, 1, 10 ** 9 - 1), (1, 2, 1)))
        self.assertEqual(arrow_class_size(bag), 2 * 10 ** 9 - 1)
        row = arrow_ledger(bag)[0]
        self.assertEqual(arrow_class_size(bag), connected_arrows(row[2]))
        # What is beyond the bounds of what can be handed in is counted all the same.
        self.assertEqual(arrow_class_size(Arrows(3, ((0, 1, 10 ** 10), (1, 2, 1)))), 2 * (10 ** 10 + 1) - 1)
        self.assertEqual(
            arrow_class_size(Arrows(3, ((0, 1, 10 ** 10), (1, 2, 10 ** 10)))), (10 ** 10 + 1) ** 2 - 1
        )


if __name__ == "__main__":
    unittest.main()
