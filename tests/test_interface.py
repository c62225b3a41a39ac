"""The interface: names, arguments, and the files that define them (L16)."""

import importlib
import inspect
import unittest

# For each file its functions, with their arguments as the interface writes them.
FUNCTIONS = {
    "rests": ("rest(x, M)", "measure(M, numbers)", "lesser(x, M)", "scaled(d, M)"),
    "choosing": ("choose(a, b)", "bags(kinds, many)"),
    "parting": ("partings(b)", "sign_of(m)"),
    "threads": ("laid(u, v, length, coat, wheel)",),
    "webs": ("made_web(n, wheel, coats, rule, bundles)", "handy(web)", "many(web, coat)", "renamed(web, places)"),
    "lots": ("lots(web)", "coat_lots(web, c)"),
    "heights": ("heights(web, lot, *, coat=-1)",),
    "ledger": ("ledger(web)", "joined(one, other)"),
    "deeds": ("back_of(wheel, deed)", "slides_of(run)", "turned(wheel, run)"),
    "carrying": ("done(web, deed)",),
    "runs": ("offers(web)", "stirs(web)", "walked(web, run)"),
    "judged": ("run_right(web, run, goal)",),
    "pairs": ("exchange_deeds(wheel, p, x, lx, a, y, ly, b, *, j=1)",),
    "gathering": ("gather_run(web, lot)",),
    "spares": ("walk_deeds(wheel, s, x, hx, cx, y, hy, cy, length, coat)",),
    "rings": ("round_deed(wheel, s, z, l, c, x, hx, cx, length, coat, *, q=1)",),
    "normal": ("normal(web)",),
    "normalrun": ("normal_run(web)", "run_between(one, other)"),
    "yespapers": ("fixed_at(web, run)",),
    "nopapers": ("parting(one, other)", "parting_right(one, other, paper)"),
    "mending": ("mended(web, run, goal)",),
    "connected": ("connected(b, counts, kinds)", "trees(b)", "one_ring(b)"),
    "classsize": ("lot_size(free, wheel)", "class_size(web)"),
    "howmany": ("lot_ledgers(b, many, M)", "ledgers(n, many, M)"),
}


class InterfaceTest(unittest.TestCase):
    def test_functions(self):
        for file, calls in FUNCTIONS.items():
            module = importlib.import_module("carriedends." + file)
            for call in calls:
                with self.subTest(file=file, call=call):
                    name = call.split("(")[0]
                    function = getattr(module, name)
                    self.assertTrue(inspect.isfunction(function))
                    self.assertEqual(function.__module__, module.__name__)
                    self.assertEqual(name + str(inspect.signature(function)), call)

    def test_web_is_a_class_that_compares_by_itself(self):
        module = importlib.import_module("carriedends.webs")
        self.assertTrue(inspect.isclass(module.Web))
        self.assertEqual(module.Web.__module__, module.__name__)
        self.assertIn("__eq__", vars(module.Web))


if __name__ == "__main__":
    unittest.main()
