"""Point [31]: texts of webs."""

import random
import unittest

from carriedends.errors import BadText, Wide
from carriedends.webs import Web, made_web
from carriedends.webtext import text_of_web, web_of
from tests.helping import assert_refused, assert_same, random_web
from tests.plaintexts import SIGNS, spoilt, web_fault

EXAMPLE = "web 3 5 1 all\nthread 0 1 0 0 1\nthread 0 2 1 0 1\nthread 1 2 0 0 1"


def example():
    return made_web(3, 5, 1, "all", ((0, 1, 0, 0, 1), (1, 2, 0, 0, 1), (0, 2, 1, 0, 1)))


class WebTextTest(unittest.TestCase):
    def assert_read(self, text):
        """A text must be read as it was written, or be refused at the row that is due."""
        fault = web_fault(text)
        if fault is None:
            found = web_of(text)
            self.assertIs(type(found), Web)
            self.assertEqual(text_of_web(found), text)
        else:
            assert_refused(self, BadText, fault, web_of, text)

    def test_example(self):
        assert_same(self, text_of_web(example()), EXAMPLE)
        self.assertEqual(web_of(EXAMPLE), example())
        self.assertEqual(web_of(text=text_of_web(web=example())), example())
        assert_same(self, web_of(EXAMPLE).bundles, example().bundles)

    def test_random_webs(self):
        rng = random.Random(31)
        for _ in range(300):
            wheel = rng.choice((0, 0, 1, 2, 7, 10 ** 6))
            web = random_web(
                rng, n=rng.randint(2, 20), wheel=wheel, coats=rng.randint(1, 4), rule=rng.choice(("all", "others", "own")),
                bundles=rng.randint(0, 30),
            )
            text = text_of_web(web)
            self.assertEqual(web_of(text), web)
            self.assert_read(text)

    def test_greatest(self):
        for rule in ("all", "others", "own"):
            web = made_web(20, 0, 4, rule, ((0, 1, -10 ** 12 + 1, 0, 1), (0, 1, 10 ** 12 - 1, 3, 10 ** 9 - 2), (18, 19, 0, 3, 1)))
            self.assertEqual(text_of_web(web), (
                f"web 20 0 4 {rule}\nthread 0 1 -999999999999 0 1\nthread 0 1 999999999999 3 999999998\nthread 18 19 0 3 1"
            ))
            self.assertEqual(web_of(text_of_web(web)), web)
        self.assertEqual(text_of_web(made_web(1, 10 ** 6, 1, "own", ())), "web 1 1000000 1 own")
        self.assertEqual(web_of("web 1 1000000 1 own"), made_web(1, 10 ** 6, 1, "own", ()))

    def test_spoilt_texts(self):
        for text in (EXAMPLE, "web 2 0 2 others\nthread 0 1 -10 1 20\nthread 0 1 0 0 3", "web 4 1 4 own"):
            for near in spoilt(text, SIGNS):
                self.assert_read(near)

    def test_bad_rows(self):
        for text, row in (
            ("", 0), ("web", 0), ("web 3 5 1", 0), ("web 3 5 1 all ", 0), (" web 3 5 1 all", 0), ("web 3 5 1 All", 0),
            ("web 3 5 1 none", 0), ("web 3 5 1 all 1", 0), ("web 0 5 1 all", 0), ("web 21 5 1 all", 0), ("Web 3 5 1 all", 0),
            ("web 3 1000001 1 all", 0), ("web 3 -1 1 all", 0), ("web 3 -0 1 all", 0), ("web 3 5 0 all", 0),
            ("web 3 5 5 all", 0), ("web 03 5 1 all", 0), ("web +3 5 1 all", 0), ("web 3 5 1 all\n", 1), ("\nweb 3 5 1 all", 0),
            ("thread 0 1 0 0 1", 0), ("web 3 5 1 all\nthread 0 1 5 0 1", 1), ("web 3 5 1 all\nthread 0 1 -1 0 1", 1),
            ("web 3 5 1 all\nthread 0 1 -0 0 1", 1), ("web 3 5 1 all\nthread 1 0 0 0 1", 1), ("web 3 5 1 all\nthread 1 1 0 0 1", 1),
            ("web 3 5 1 all\nthread 0 3 0 0 1", 1), ("web 3 5 1 all\nthread 0 1 0 1 1", 1), ("web 3 5 1 all\nthread 0 1 0 0 0", 1),
            ("web 3 5 1 all\nthread 0 1 0 0 1000000001", 1), ("web 3 5 1 all\nthread 0 1 0 0", 1),
            ("web 3 5 1 all\nthread 0 1 0 0 1 1", 1), ("web 3 5 1 all\nthread 0 1 0 0 01", 1), ("web 3 5 1 all\nthread 0 1 0 0  1", 1),
            ("web 3 0 1 all\nthread 0 1 1000000000000 0 1", 1), ("web 3 0 1 all\nthread 0 1 -1000000000000 0 1", 1),
            ("web 3 5 1 all\nweb 3 5 1 all", 1), ("web 3 5 1 all\nbundle 0 1 0 0 1", 1), ("web 3 5 1 all\n\nthread 0 1 0 0 1", 1),
            ("web 3 5 1 all\nthread 0 1 0 0 1\nthread 0 1 0 0 1", 2), ("web 3 5 1 all\nthread 0 1 1 0 1\nthread 0 1 0 0 1", 2),
            ("web 3 5 2 all\nthread 0 1 1 1 1\nthread 0 1 1 0 1\nthread", 2), (EXAMPLE + "\n", 4), (EXAMPLE + "\nthread 1 2 0 0 2", 4),
            ("web 3 5 1 all\r\nthread 0 1 0 0 1", 0), ("web 3 5 1 all;thread 0 1 0 0 1", 0),
            ("web \u0663 5 1 all", 0), ("web 3 5 1 all\nthread 0 1 0 0 \u00b2", 1), ("web 3 5 1 all\nthread 0 1 0 0 " + "1" * 5000, 1),
        ):
            self.assertEqual(web_fault(text), row)
            assert_refused(self, BadText, row, web_of, text)

    def test_faults_of_all_rows_together(self):
        rows = ["web 20 40 1 all"] + [f"thread 0 1 {length} 0 1" for length in range(31)]
        self.assertEqual(len(web_of("\n".join(rows[:31])).bundles), 30)
        assert_refused(self, BadText, 32, web_of, "\n".join(rows))
        assert_refused(self, BadText, 31, web_of, "\n".join(rows[:31] + ["thread 0 1 29 0 1"]))
        assert_refused(self, BadText, 40, web_of, "\n".join(rows + [f"thread 0 2 {length} 0 1" for length in range(8)]))
        most = 10 ** 9
        text = f"web 3 5 1 all\nthread 0 1 0 0 {most - 1}\nthread 0 2 0 0 "
        self.assertEqual(text_of_web(web_of(text + "1")), text + "1")
        assert_refused(self, BadText, 3, web_of, text + "2")
        assert_refused(self, BadText, 4, web_of, text + "2\nthread 1 2 0 0 1")
        assert_refused(self, BadText, 3, web_of, text + "2\nthread 1 2 0 0 0")

    def test_wide(self):
        threads = tuple((0, 1, length, 0, 1) for length in range(31))
        self.assertEqual(text_of_web(Web(2, 40, 1, "all", threads[:30])).count("\n"), 30)
        for web in (
            Web(2, 40, 1, "all", threads), Web(2, 0, 1, "all", ((0, 1, 10 ** 12, 0, 1),)),
            Web(2, 1, 2, "all", ((0, 1, 0, 0, 10 ** 9), (0, 1, 0, 1, 1))),
        ):
            assert_refused(self, Wide, 0, text_of_web, web)


if __name__ == "__main__":
    unittest.main()
