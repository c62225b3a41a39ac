"""Points [3], [0.4] and the sentence on `renamed` in [5]: webs."""

import itertools
import unittest

from carriedends.errors import BadBundle, BadCoats, BadPlace, BadRule, BadSize, BadWheel, TooMany
from carriedends.webs import Web, handy, made_web, many, renamed
from tests.helping import assert_refused, assert_same

MOST = 10 ** 9
FAR = 10 ** 12


def parts_of(web):
    return (web.n, web.wheel, web.coats, web.rule, web.bundles)


def thirty(count):
    """30 bundles with different lengths, each with this count."""
    return tuple((0, 1, length, 0, count) for length in range(30))


class MadeWebTest(unittest.TestCase):
    def test_attributes(self):
        web = made_web(3, 5, 2, "others", ((0, 1, 4, 0, 2), (1, 2, 0, 1, 7)))
        self.assertIs(type(web), Web)
        assert_same(self, parts_of(web), (3, 5, 2, "others", ((0, 1, 4, 0, 2), (1, 2, 0, 1, 7))))

    def test_each_rule(self):
        for rule in ("all", "others", "own"):
            self.assertEqual(made_web(1, 1, 1, rule, ()).rule, rule)

    def test_without_threads(self):
        assert_same(self, parts_of(made_web(1, 0, 1, "own", ())), (1, 0, 1, "own", ()))

    def test_bounds_that_are_let(self):
        least = made_web(1, 0, 1, "all", ())
        greatest = made_web(20, 10 ** 6, 4, "all", ((18, 19, 10 ** 6 - 1, 3, MOST),))
        assert_same(self, parts_of(least), (1, 0, 1, "all", ()))
        assert_same(self, parts_of(greatest), (20, 10 ** 6, 4, "all", ((18, 19, 10 ** 6 - 1, 3, MOST),)))

    def test_bundles_are_put_in_order(self):
        bundles = ((0, 1, 0, 0, 5), (0, 1, 0, 1, 4), (0, 1, 2, 0, 3), (0, 2, 0, 0, 2), (1, 2, 0, 0, 1))
        for shuffled in itertools.permutations(bundles):
            self.assertEqual(made_web(3, 5, 2, "all", shuffled).bundles, bundles)

    def test_order_of_lengths_with_wheel_0(self):
        web = made_web(2, 0, 1, "all", ((0, 1, 10, 0, 1), (0, 1, -2, 0, 1), (0, 1, 9, 0, 1), (0, 1, -10, 0, 1)))
        self.assertEqual([bundle[2] for bundle in web.bundles], [-10, -2, 9, 10])

    def test_like_bundles_are_added(self):
        web = made_web(2, 5, 1, "all", ((0, 1, 2, 0, 3), (0, 1, 1, 0, 1), (0, 1, 2, 0, 4), (0, 1, 2, 0, 10)))
        assert_same(self, web.bundles, ((0, 1, 1, 0, 1), (0, 1, 2, 0, 17)))

    def test_what_is_handed_in_stays(self):
        bundles = ((1, 2, 0, 0, 1), (0, 1, 0, 0, 1), (0, 1, 0, 0, 1))
        made_web(3, 5, 1, "all", bundles)
        self.assertEqual(bundles, ((1, 2, 0, 0, 1), (0, 1, 0, 0, 1), (0, 1, 0, 0, 1)))

    def test_by_name(self):
        web = made_web(bundles=(), rule="own", coats=2, wheel=3, n=4)
        self.assertEqual(parts_of(web), (4, 3, 2, "own", ()))


class BadFrameTest(unittest.TestCase):
    def test_size(self):
        for n in (0, -1, 21, FAR ** 5):
            assert_refused(self, BadSize, n, made_web, n, 5, 1, "all", ())

    def test_wheel(self):
        for wheel in (-1, 10 ** 6 + 1, FAR ** 5):
            assert_refused(self, BadWheel, wheel, made_web, 3, wheel, 1, "all", ())

    def test_coats(self):
        for coats in (0, -1, 5, FAR ** 5):
            assert_refused(self, BadCoats, coats, made_web, 3, 5, coats, "all", ())

    def test_rule(self):
        for rule in ("", "All", "any", "all ", "other", "o", "ll"):
            assert_refused(self, BadRule, rule, made_web, 3, 5, 1, rule, ())

    def test_too_many_bundles(self):
        self.assertEqual(made_web(2, 30, 1, "all", thirty(1)).bundles, thirty(1))
        assert_refused(self, TooMany, 31, made_web, 2, 30, 1, "all", thirty(1) + ((0, 1, 0, 0, 1),))
        assert_refused(self, TooMany, 60, made_web, 2, 30, 1, "all", thirty(1) * 2)

    def test_bundles_are_counted_as_they_are_handed_in(self):
        self.assertEqual(made_web(2, 1, 1, "all", ((0, 1, 0, 0, 1),) * 30).bundles, ((0, 1, 0, 0, 30),))
        assert_refused(self, TooMany, 31, made_web, 2, 1, 1, "all", ((0, 1, 0, 0, 1),) * 31)

    def test_order_of_the_errors(self):
        bad = (None,)
        assert_refused(self, BadSize, 0, made_web, 0, -1, 0, "any", bad * 31)
        assert_refused(self, BadWheel, -1, made_web, 1, -1, 0, "any", bad * 31)
        assert_refused(self, BadCoats, 0, made_web, 1, 0, 0, "any", bad * 31)
        assert_refused(self, BadRule, "any", made_web, 1, 0, 1, "any", bad * 31)
        assert_refused(self, TooMany, 31, made_web, 1, 0, 1, "all", bad * 31)
        assert_refused(self, BadBundle, 0, made_web, 1, 0, 1, "all", bad * 30)


class BadBundleTest(unittest.TestCase):
    def assert_bad(self, bundle, n=3, wheel=5, coats=2):
        """The bundle must be refused, wherever it stands, and whether a bad one stands behind it or not."""
        good = (0, 1, 0, 0, 1)
        assert_refused(self, BadBundle, 0, made_web, n, wheel, coats, "all", (bundle,))
        assert_refused(self, BadBundle, 1, made_web, n, wheel, coats, "all", (good, bundle))
        assert_refused(self, BadBundle, 2, made_web, n, wheel, coats, "own", (good, good, bundle, good, bundle))

    def test_entries_of_any_kind(self):
        for thing in (None, 0, 5, -FAR, "", "01001", "bundle", (), (None,), ((0, 1, 0, 0, 1),)):
            self.assert_bad(thing)

    def test_tuples_of_another_length(self):
        for thing in ((0, 1, 0, 0), (0, 1, 0, 0, 1, 1), (0, 1), (1,), (0, 1, 0, 0, 1, None)):
            self.assert_bad(thing)

    def test_parts_that_are_no_numbers(self):
        for at in range(5):
            for part in (None, "", "0", "1", (), (0,), (1,), (None, ("a", 2))):
                bundle = (0, 1, 0, 0, 1)
                self.assert_bad(bundle[:at] + (part,) + bundle[at + 1:])

    def test_deep_nesting(self):
        deep = ()
        for _ in range(99):
            deep = (deep,)
        self.assert_bad(deep)
        self.assert_bad((0, 1, 0, 0, deep[0]))

    def test_places(self):
        for u, v in ((0, 0), (1, 0), (2, 2), (-1, 0), (-1, 1), (0, 3), (2, 3), (3, 4), (-2, -1), (0, FAR ** 4)):
            self.assert_bad((u, v, 0, 0, 1))

    def test_lengths_by_a_wheel(self):
        for length in (-1, 5, 6, FAR, -FAR):
            self.assert_bad((0, 1, length, 0, 1))
        self.assert_bad((0, 1, 1, 0, 1), wheel=1)
        self.assert_bad((0, 1, -1, 0, 1), wheel=1)
        self.assertEqual(made_web(2, 5, 1, "all", ((0, 1, 4, 0, 1),)).bundles, ((0, 1, 4, 0, 1),))
        self.assertEqual(made_web(2, 1, 1, "all", ((0, 1, 0, 0, 1),)).bundles, ((0, 1, 0, 0, 1),))

    def test_lengths_with_wheel_0(self):
        for length in (FAR, -FAR, FAR + 1, FAR ** 4, -FAR ** 4):
            self.assert_bad((0, 1, length, 0, 1), wheel=0)
        for length in (FAR - 1, 1 - FAR, -1, 0):
            self.assertEqual(made_web(2, 0, 1, "all", ((0, 1, length, 0, 1),)).bundles, ((0, 1, length, 0, 1),))

    def test_coats(self):
        for coat in (-1, 2, 3, FAR):
            self.assert_bad((0, 1, 0, coat, 1))

    def test_counts(self):
        for count in (0, -1, MOST + 1, FAR ** 4):
            self.assert_bad((0, 1, 0, 0, count))

    def test_greatest_count(self):
        self.assertEqual(made_web(2, 1, 1, "all", ((0, 1, 0, 0, MOST),)).bundles, ((0, 1, 0, 0, MOST),))

    def test_sum_of_counts(self):
        half = MOST // 2
        web = made_web(3, 1, 1, "all", ((0, 1, 0, 0, half), (1, 2, 0, 0, half)))
        self.assertEqual(web.bundles, ((0, 1, 0, 0, half), (1, 2, 0, 0, half)))
        above = ((0, 1, 0, 0, half), (1, 2, 0, 0, half), (0, 2, 0, 0, 1))
        assert_refused(self, BadBundle, 2, made_web, 3, 1, 1, "all", above)
        assert_refused(self, BadBundle, 1, made_web, 3, 1, 1, "all", ((0, 1, 0, 0, MOST), (1, 2, 0, 0, MOST)))

    def test_sum_of_the_counts_of_like_bundles(self):
        two = ((0, 1, 0, 0, MOST - 1), (0, 1, 0, 0, 1))
        self.assertEqual(made_web(2, 1, 1, "all", two).bundles, ((0, 1, 0, 0, MOST),))
        assert_refused(self, BadBundle, 2, made_web, 2, 1, 1, "all", two + ((0, 1, 0, 0, 1),))

    def test_the_first_fault_of_both_kinds(self):
        full, bad = (0, 1, 0, 0, MOST), (1, 0, 0, 0, 1)
        assert_refused(self, BadBundle, 1, made_web, 2, 1, 1, "all", (full, full, bad))
        assert_refused(self, BadBundle, 1, made_web, 2, 1, 1, "all", (full, bad, full))
        assert_refused(self, BadBundle, 0, made_web, 2, 1, 1, "all", (bad, full, full))


class EqualTest(unittest.TestCase):
    def test_equal(self):
        one = made_web(3, 5, 2, "all", ((0, 1, 4, 0, 2), (1, 2, 0, 1, 7)))
        other = made_web(3, 5, 2, "all", ((1, 2, 0, 1, 7), (0, 1, 4, 0, 1), (0, 1, 4, 0, 1)))
        self.assertIs(one == other, True)
        self.assertIs(one != other, False)

    def test_each_of_the_five_counts(self):
        bundles = ((0, 1, 4, 0, 2),)
        one = made_web(3, 5, 2, "all", bundles)
        for other in (
            made_web(4, 5, 2, "all", bundles),
            made_web(3, 6, 2, "all", bundles),
            made_web(3, 5, 3, "all", bundles),
            made_web(3, 5, 2, "own", bundles),
            made_web(3, 5, 2, "all", ((0, 1, 4, 0, 3),)),
        ):
            self.assertIs(one == other, False)
            self.assertIs(other == one, False)
            self.assertIs(one != other, True)

    def test_values_of_other_classes(self):
        web = made_web(1, 0, 1, "all", ())
        for other in (None, 0, "web", (1, 0, 1, "all", ()), BadSize(1)):
            self.assertIs(web == other, False)
            self.assertIs(web != other, True)


class HandyTest(unittest.TestCase):
    def test_what_is_made_is_handy(self):
        for web in (
            made_web(1, 0, 1, "all", ()),
            made_web(2, 30, 1, "all", thirty(MOST // 30)),
            made_web(2, 0, 1, "all", ((0, 1, FAR - 1, 0, MOST),)),
            made_web(2, 0, 1, "all", ((0, 1, 1 - FAR, 0, MOST),)),
            made_web(2, 10 ** 6, 1, "all", ((0, 1, 10 ** 6 - 1, 0, 1),)),
        ):
            self.assertIs(handy(web), True)

    def test_too_many_bundles(self):
        bundles = tuple((0, 1, length, 0, 1) for length in range(31))
        self.assertIs(handy(Web(2, 31, 1, "all", bundles)), False)
        self.assertIs(handy(Web(2, 31, 1, "all", bundles[:30])), True)

    def test_too_many_threads(self):
        self.assertIs(handy(Web(2, 5, 1, "all", ((0, 1, 0, 0, MOST), (0, 1, 1, 0, 1)))), False)
        self.assertIs(handy(Web(2, 5, 1, "all", ((0, 1, 0, 0, MOST - 1), (0, 1, 1, 0, 1)))), True)
        self.assertIs(handy(Web(2, 5, 1, "all", ((0, 1, 0, 0, MOST + 1),))), False)

    def test_long_threads_with_wheel_0(self):
        for length in (FAR, -FAR, FAR ** 4):
            self.assertIs(handy(Web(2, 0, 1, "all", ((0, 1, length, 0, 1),))), False)
            self.assertIs(handy(Web(3, 0, 1, "all", ((0, 1, length, 0, 1), (1, 2, 0, 0, 1)))), False)
            self.assertIs(handy(Web(3, 0, 1, "all", ((0, 1, 0, 0, 1), (1, 2, length, 0, 1)))), False)

    def test_by_name(self):
        self.assertIs(handy(web=made_web(1, 0, 1, "all", ())), True)


class ManyTest(unittest.TestCase):
    def test_threads_of_each_coat(self):
        web = made_web(3, 5, 4, "all", ((0, 1, 4, 0, 2), (1, 2, 0, 1, 7), (0, 2, 0, 1, 100), (0, 1, 0, 3, MOST // 2)))
        for coat, due in ((0, 2), (1, 107), (2, 0), (3, MOST // 2)):
            assert_same(self, many(web, coat), due)
        assert_same(self, many(coat=1, web=web), 107)

    def test_refused(self):
        web = made_web(3, 5, 2, "all", ())
        for coat in (-1, 2, 4, FAR ** 4):
            assert_refused(self, BadCoats, coat, many, web, coat)


class RenamedTest(unittest.TestCase):
    def test_places_take_the_place_of_others(self):
        web = made_web(3, 5, 2, "own", ((0, 1, 2, 0, 3), (1, 2, 1, 1, 4)))
        due = (3, 5, 2, "own", ((0, 1, 1, 1, 4), (0, 2, 3, 0, 3)))
        found = renamed(web, (2, 0, 1))
        self.assertIs(type(found), Web)
        assert_same(self, parts_of(found), due)
        self.assertEqual(parts_of(web), (3, 5, 2, "own", ((0, 1, 2, 0, 3), (1, 2, 1, 1, 4))))

    def test_places_are_not_taken_backwards(self):
        web = made_web(3, 0, 1, "all", ((0, 1, 5, 0, 1),))
        self.assertEqual(renamed(web, (1, 2, 0)).bundles, ((1, 2, 5, 0, 1),))
        self.assertEqual(renamed(web, (2, 0, 1)).bundles, ((0, 2, -5, 0, 1),))

    def test_lengths_turn_with_the_order(self):
        web = made_web(2, 7, 1, "all", ((0, 1, 0, 0, 1), (0, 1, 1, 0, 2), (0, 1, 5, 0, 3)))
        self.assertEqual(renamed(web, (1, 0)).bundles, ((0, 1, 0, 0, 1), (0, 1, 2, 0, 3), (0, 1, 6, 0, 2)))
        self.assertEqual(renamed(web, (0, 1)), web)

    def test_back_again(self):
        web = made_web(4, 9, 2, "others", ((0, 1, 2, 0, 3), (1, 2, 1, 1, 4), (0, 3, 8, 0, 1), (2, 3, 0, 1, 1)))
        for places in itertools.permutations(range(4)):
            back = tuple(places.index(place) for place in range(4))
            self.assertEqual(renamed(renamed(web, places), back), web)

    def test_webs_that_are_not_handy(self):
        web = Web(2, 0, 1, "all", ((0, 1, 10 ** 40, 0, 10 ** 10),))
        self.assertEqual(renamed(web, (1, 0)).bundles, ((0, 1, -10 ** 40, 0, 10 ** 10),))

    def test_how_many(self):
        web = made_web(3, 5, 1, "all", ())
        for places in ((), (0,), (0, 1), (0, 1, 2, 3), (7, 7)):
            assert_refused(self, BadPlace, len(places), renamed, web, places)

    def test_first_bad_place(self):
        web = made_web(3, 5, 1, "all", ())
        for places, index in (
            ((-1, 0, 1), 0), ((3, 0, 1), 0), ((0, 3, 1), 1), ((0, 1, -1), 2), ((0, 0, 1), 1), ((0, 1, 0), 2),
            ((2, 1, 1), 2), ((0, 0, 9), 1), ((0, 9, 0), 1), ((2, 2, 2), 1), ((0, 1, FAR ** 4), 2),
        ):
            assert_refused(self, BadPlace, index, renamed, web, places)

    def test_by_name(self):
        web = made_web(2, 5, 1, "all", ((0, 1, 1, 0, 1),))
        self.assertEqual(renamed(places=(1, 0), web=web).bundles, ((0, 1, 4, 0, 1),))


if __name__ == "__main__":
    unittest.main()
