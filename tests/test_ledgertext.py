"""Point [31]: texts of ledgers."""

import random
import unittest

from carriedends.errors import BadRow, BadRule, BadText
from carriedends.ledger import ledger
from carriedends.ledgertext import ledger_of, text_of_ledger
from carriedends.webs import made_web
from tests.helping import assert_refused, assert_same, random_web
from tests.plaintexts import SIGNS, ledger_fault, spoilt

RULES = ("all", "others", "own")
ROWS = (
    ("free", (0, 1, 10), (3, 0), 1, 1, 0, (0, -2, 7)), ("one", 2), ("stuck", (3, 5), ((3, 5, -4, 0, 2), (3, 5, 0, 1, 10))),
    ("free", (4, 6, 7), (2, 1), 0, 6, None, (0, 0, 5)),
)
TEXT = "free 0,1,10 3,0 1 1 0 0,-2,7\none 2\nstuck 3,5 3:5:-4:0:2 3:5:0:1:10\nfree 4,6,7 2,1 0 6 - 0,0,5"
LONGEST = 10 ** 40 - 1


class LedgerTextTest(unittest.TestCase):
    def assert_read(self, rule, text):
        """A text must be read as it was written, or be refused at the row that is due."""
        fault = ledger_fault(rule, text)
        if fault is None:
            self.assertEqual(text_of_ledger(rule, ledger_of(rule, text)), text)
        else:
            assert_refused(self, BadText, fault, ledger_of, rule, text)

    def test_examples(self):
        for rule, text, due in (
            ("all", "", ()), ("others", "", ()), ("own", "", ()), ("own", "coat 0", ((),)),
            ("all", "free 1,0 2 9 9 - 5", (("free", (1, 0), (2,), 9, 9, None, (5,)),)),
            ("own", "coat 0\ncoat 1\none 7\ncoat 2", ((), (("one", 7),), ())),
        ):
            assert_same(self, ledger_of(rule, text), due, nones=True)
            assert_same(self, text_of_ledger(rule, due), text)
        web = made_web(3, 5, 1, "all", ((0, 1, 0, 0, 1), (1, 2, 0, 0, 1), (0, 2, 1, 0, 1)))
        assert_same(self, text_of_ledger("all", ledger(web)), "free 0,1,2 3 1 1 1 0,0,0")

    def test_rows(self):
        for rule in ("all", "others"):
            assert_same(self, text_of_ledger(rule, ROWS), TEXT)
            assert_same(self, ledger_of(rule, TEXT), ROWS, nones=True)
        own = (ROWS[:2], (), ROWS[2:])
        rows = TEXT.split("\n")
        text = "\n".join(["coat 0", *rows[:2], "coat 1", "coat 2", *rows[2:]])
        assert_same(self, text_of_ledger("own", own), text)
        assert_same(self, ledger_of("own", text), own, nones=True)
        assert_same(self, ledger_of(text=text_of_ledger(ledger=own, rule="own"), rule="own"), own, nones=True)

    def test_random_ledgers(self):
        rng = random.Random(314)
        for _ in range(300):
            rule = rng.choice(RULES)
            web = random_web(
                rng, n=rng.randint(2, 20), wheel=rng.choice((0, 0, 1, 12, 10 ** 6)), coats=rng.randint(1, 4), rule=rule,
                bundles=rng.randint(0, 30),
            )
            text = text_of_ledger(rule, ledger(web))
            self.assertEqual(ledger_of(rule, text), ledger(web))
            self.assert_read(rule, text)

    def test_spoilt_texts(self):
        for rule, text in (
            ("all", TEXT), ("own", "coat 0\none 0\ncoat 1\nfree 0,1 2 1 1 - -3"), ("others", "stuck 0,1 0:1:-2:0:10"),
            ("own", "\n".join(f"coat {coat}" for coat in range(11))), ("all", "coat 0"),
        ):
            for near in spoilt(text, SIGNS):
                self.assert_read(rule, near)

    def test_bad_rows(self):
        for rule, text, row in (
            ("all", "\n", 0), ("all", "one", 0), ("all", "one 1 2", 0), ("all", "one -1", 0), ("all", "one 1,2", 0),
            ("all", "coat 0", 0), ("others", "coat 0\none 0", 0), ("own", "one 0", 0), ("own", "one 0\ncoat 0", 0),
            ("own", "coat 1", 0), ("own", "coat 00", 0), ("own", "coat 0\ncoat 0", 1), ("own", "coat 0\ncoat 2", 1),
            ("own", "coat 0\none 0\ncoat 0", 2), ("own", "coat", 0), ("own", "coat 0\n", 1), ("own", "coat 0 0", 0),
            ("all", "stuck 0,1", 0), ("all", "stuck 0,1 ", 0), ("all", "stuck 0,1 0:1:0:0", 0), ("all", "stuck 0,1 0:1:0:0:1:1", 0),
            ("all", "stuck 0,1 0:1:0:0:1,0:1:1:0:1", 0), ("all", "stuck 0,1 -0:1:0:0:1", 0), ("all", "stuck 0,1 0:1:-0:0:1", 0),
            ("all", "stuck 0,1 0:1:0:-1:1", 0), ("all", "stuck 0,1 0:1:0:0:-1", 0), ("all", "stuck 0:1 0:1:0:0:1", 0),
            ("all", "stuck 0,-1 0:1:0:0:1", 0), ("all", "stuck 0,,1 0:1:0:0:1", 0), ("all", "stuck 0,1, 0:1:0:0:1", 0),
            ("all", "free 0,1 2 1 1 -", 0), ("all", "free 0,1 2 1 1 - 0 0", 0), ("all", "free 0,1 2 1 1 -1 0", 0),
            ("all", "free 0,1 2 1 1 -- 0", 0), ("all", "free 0,1 2 -1 1 - 0", 0), ("all", "free 0,1 2 1 -1 - 0", 0),
            ("all", "free 0,1 -2 1 1 - 0", 0), ("all", "free -1,0 2 1 1 - 0", 0), ("all", "free 0,1 2 1 1 - -0", 0),
            ("all", "free 0,1 2 1 1 None 0", 0), ("all", "free 0,1 2 1,1 1 - 0", 0), ("all", "free 0,1 2 1 1 1,1 0", 0),
            ("all", "free 0,1 2 1 1 - 0,", 0), ("all", "Free 0,1 2 1 1 - 0", 0), ("all", TEXT + "\n", 4), ("all", TEXT + "\nmark", 4),
            ("all", "one 0\none " + "1" * 41, 1), ("all", "one 0\none " + "1" * 5000, 1), ("all", "one \u0661", 0),
        ):
            self.assertEqual(ledger_fault(rule, text), row, (rule, text))
            assert_refused(self, BadText, row, ledger_of, rule, text)

    def test_longest_numbers(self):
        row = ("free", (LONGEST,), (LONGEST,), LONGEST, LONGEST, LONGEST, (-LONGEST, LONGEST))
        table = (("one", LONGEST), ("stuck", (LONGEST,), ((LONGEST, LONGEST, -LONGEST, LONGEST, LONGEST),)), row)
        self.assertEqual(ledger_of("all", text_of_ledger("all", table)), table)
        far = 10 ** 40
        for bad in (
            ("one", far), ("stuck", (0, far), ((0, 1, 0, 0, 1),)), ("stuck", (0, 1), ((0, 1, 0, 0, 1), (0, 1, far, 0, 1))),
            ("stuck", (0, 1), ((0, 1, -far, 0, 1),)), ("stuck", (0, 1), ((0, 1, 0, 0, far ** 200),)),
            ("free", (0, 1, far), (2,), 0, 1, None, (0, 0, 0)), ("free", (0, 1, 2), (far,), 0, 1, None, (0, 0, 0)),
            ("free", (0, 1, 2), (2,), far, 1, None, (0, 0, 0)), ("free", (0, 1, 2), (2,), 0, far, None, (0, 0, 0)),
            ("free", (0, 1, 2), (2,), 0, 1, far, (0, 0, 0)), ("free", (0, 1, 2), (2,), 0, 1, None, (0, -far, 0)),
        ):
            assert_refused(self, BadRow, 0, text_of_ledger, "all", (bad, bad))
            assert_refused(self, BadRow, 2, text_of_ledger, "others", (("one", 0), row, bad, bad))
            # Under "own" the rows of the coats are rows of the text, too.
            assert_refused(self, BadRow, 1, text_of_ledger, "own", ((bad,),))
            assert_refused(self, BadRow, 4, text_of_ledger, "own", ((("one", 0),), (row, bad)))

    def test_bad_rules(self):
        for rule in ("", "All", "none", "own "):
            assert_refused(self, BadRule, rule, text_of_ledger, rule, (("one", 10 ** 40),))
            assert_refused(self, BadRule, rule, ledger_of, rule, "one")


if __name__ == "__main__":
    unittest.main()
