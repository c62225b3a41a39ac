"""Point [31]: texts of runs."""

import random
import unittest

from carriedends.errors import BadRow, BadText, TooMany
from carriedends.normalrun import normal_run
from carriedends.runtext import run_of, text_of_run
from tests.helping import assert_refused, assert_same, random_web
from tests.plaintexts import SIGNS, run_fault, spoilt

CARRY = ("carry", 1, 0, -4, 0, 2, 3, 1, 4)
ROUND = ("round", 2, 0, 4, 1, 1, 6, 0, -5, 0, 1, 2)
TEXT = "carry 1 0 -4 0 2 3 1 4\nround 2 0 4 1 1 6 0 -5 0 1 2"
LONGEST = 10 ** 40 - 1


class RunTextTest(unittest.TestCase):
    def assert_read(self, text):
        """A text must be read as it was written, or be refused at the row that is due."""
        fault = run_fault(text)
        if fault is None:
            self.assertEqual(text_of_run(run_of(text)), text)
        else:
            assert_refused(self, BadText, fault, run_of, text)

    def test_rows(self):
        assert_same(self, text_of_run((CARRY, ROUND)), TEXT)
        assert_same(self, run_of(TEXT), (CARRY, ROUND))
        assert_same(self, run_of(text=text_of_run(run=(ROUND, ROUND))), (ROUND, ROUND))

    def test_empty_run(self):
        assert_same(self, text_of_run(()), "")
        assert_same(self, run_of(""), ())
        for text in ("\n", " ", "\n" + TEXT):
            assert_refused(self, BadText, 0, run_of, text)
        assert_refused(self, BadText, 2, run_of, TEXT + "\n")

    def test_runs_to_normal_forms(self):
        rng = random.Random(311)
        for _ in range(60):
            web = random_web(
                rng, n=rng.randint(2, 9), wheel=rng.choice((0, 0, 1, 12, 10 ** 6)), coats=rng.randint(1, 4),
                rule=rng.choice(("all", "others", "own")), bundles=rng.randint(0, 20),
            )
            run = normal_run(web)
            self.assertEqual(run_of(text_of_run(run)), run)

    def test_longest_numbers(self):
        deed = ("round", LONGEST, LONGEST, -LONGEST, LONGEST, LONGEST, -LONGEST, 0, -LONGEST, LONGEST, LONGEST, LONGEST)
        for run in ((deed,), (("carry", LONGEST, 0, -LONGEST, 0, 0, -LONGEST, 0, LONGEST),)):
            self.assertEqual(run_of(text_of_run(run)), run)
        for deed, sizes in ((CARRY, range(1, 9)), (ROUND, range(1, 11))):
            for at in sizes:
                assert_refused(self, BadRow, 1, text_of_run, (CARRY, deed[:at] + (10 ** 40,) + deed[at + 1:]))
        for at in (3, 6):
            assert_refused(self, BadRow, 0, text_of_run, (CARRY[:at] + (-10 ** 40,) + CARRY[at + 1:],))
        for word in ("1" + "0" * 40, "1" * 5000):
            assert_refused(self, BadText, 1, run_of, TEXT.replace("-5", word))
            assert_refused(self, BadText, 1, run_of, TEXT.replace("-5", "-" + word))
            assert_refused(self, BadText, 0, run_of, TEXT.replace("3 1 4", "3 1 " + word))

    def test_spoilt_texts(self):
        for near in spoilt(TEXT, SIGNS):
            self.assert_read(near)
        for near in spoilt(TEXT + "\n" + TEXT[:22], ("0", "-")):
            self.assert_read(near)

    def test_bad_rows(self):
        for row in (
            "carry", "carry 1 0 4 0 2 3 1", "carry 1 0 4 0 2 3 1 0", "carry 1 0 4 0 2 3 1 -4", "carry -1 0 4 0 2 3 1 4",
            "carry 1 0 -0 0 2 3 1 4", "carry 1 0 4 0 2 3 1 4 5", "Carry 1 0 4 0 2 3 1 4", "carry 1 0 4 0 2 3 1 4 ",
            "carry  1 0 4 0 2 3 1 4", "round 2 0 4 1 1 6 0 5 0 1 0", "round 2 0 4 1 1 6 0 5 0 0 2", "round 2 0 4 1 1 6 0 5 0 1",
            "round 2 0 4 1 1 6 0 5 -0 1 2", "round 2 0 4 1 1 6 0 5 -1 1 2", "carry 2 0 4 1 1 6 0 5 0 1 2",
            "round 1 0 -4 0 2 3 1 4", "mark", "lay 0 1 0 0 1", "carry 1 0 --4 0 2 3 1 4", "carry 1 0 - 0 2 3 1 4",
            "carry 1 0 +4 0 2 3 1 4", "carry 1 0 4 0 2 3 1 4_0", "carry 1 0 4 0 2 3 1 \u0664",
        ):
            assert_refused(self, BadText, 0, run_of, row)
            assert_refused(self, BadText, 2, run_of, TEXT + "\n" + row + "\nmark")

    def test_bad_deeds(self):
        for deed in (
            None, 0, "carry", "", (), ("carry",), CARRY[:-1], CARRY + (1,), ("round",) + CARRY[1:], ("carry",) + ROUND[1:],
            ("lay", 0, 1, 0, 0, 1), CARRY[:8] + (0,), ROUND[:11] + (0,), ROUND[:11] + (10 ** 40,), ROUND[:10] + (0, 1),
            ("carry", -1) + CARRY[2:], CARRY[:4] + (-1,) + CARRY[5:], CARRY[:7] + (-1, 4), CARRY[:3] + ("0",) + CARRY[4:],
            CARRY[:3] + (None,) + CARRY[4:], CARRY[:3] + ((1,),) + CARRY[4:], (CARRY,), ROUND[:9] + (-1,) + ROUND[10:],
        ):
            assert_refused(self, BadRow, 0, text_of_run, (deed,))
            assert_refused(self, BadRow, 2, text_of_run, (CARRY, ROUND, deed, None))

    def test_how_many_deeds(self):
        run = (CARRY, ROUND) * 50000
        text = text_of_run(run)
        self.assertEqual(run_of(text), run)
        assert_refused(self, TooMany, 100001, text_of_run, run + (CARRY,))
        assert_refused(self, TooMany, 100001, text_of_run, (None,) * 100001)
        assert_refused(self, BadText, 100001, run_of, text + "\n" + TEXT[:22])
        assert_refused(self, BadText, 100002, run_of, text + "\n" + TEXT)
        # A row that is bad by itself comes first.
        assert_refused(self, BadText, 100001, run_of, text + "\n" + TEXT[:22] + "\n\n")
        assert_refused(self, BadText, 100000, run_of, text + "\nmark\n" + TEXT)


if __name__ == "__main__":
    unittest.main()
