"""The interface: names, arguments, and the files that define them (L16)."""

import importlib
import inspect
import unittest

# For each file its functions, with their arguments as the interface writes them.
FUNCTIONS = {
    "rests": ("rest(x, M)", "measure(M, numbers)", "lesser(x, M)", "scaled(d, M)"),
    "choosing": ("choose(a, b)", "bags(kinds, many)"),
    "parting": ("partings(b)", "sign_of(m)"),
    "threads": ("laid(u, v, length, coat, wheel)",),
    "webs": ("made_web(n, wheel, coats, rule, bundles)", "handy(web)", "many(web, coat)", "renamed(web, places)"),
    "lots": ("lots(web)", "coat_lots(web, c)"),
    "heights": ("heights(web, lot, *, coat=-1)",),
    "ledger": ("ledger(web)", "joined(one, other)"),
    "deeds": ("back_of(wheel, deed)", "slides_of(run)", "turned(wheel, run)"),
    "carrying": ("done(web, deed)",),
    "runs": ("offers(web)", "stirs(web)", "walked(web, run)"),
    "judged": ("run_right(web, run, goal)",),
    "pairs": ("exchange_deeds(wheel, p, x, lx, a, y, ly, b, *, j=1)",),
    "gathering": ("gather_run(web, lot)",),
    "spares": ("walk_deeds(wheel, s, x, hx, cx, y, hy, cy, length, coat)",),
    "rings": ("round_deed(wheel, s, z, l, c, x, hx, cx, length, coat, *, q=1)",),
    "normal": ("normal(web)",),
    "normalrun": ("normal_run(web)", "run_between(one, other)"),
    "yespapers": ("fixed_at(web, run)",),
    "nopapers": ("parting(one, other)", "parting_right(one, other, paper)"),
    "mending": ("mended(web, run, goal)",),
    "connected": ("connected(b, counts, kinds)", "trees(b)", "one_ring(b)"),
    "classsize": ("lot_size(free, wheel)", "class_size(web)"),
    "howmany": ("lot_ledgers(b, many, M)", "ledgers(n, many, M)"),
    "apart": ("apart(one, other)",),
    "balls": ("balls(web)",),
    "nearest": ("fewest(one, other)", "nearest_run(one, other)", "gather_count(web, lot)"),
    "cheapest": ("cheapest(one, other, prices)",),
    "patches": ("made_patches(n, k, bundles)", "patch_handy(patches)"),
    "patchlots": ("patch_lots(patches)", "patch_ledger(patches)", "patch_joined(one, other)"),
    "patchdeeds": (
        "patch_done(patches, deed)", "patch_offers(patches)", "patch_walked(patches, run)",
        "patch_run_right(patches, run, goal)", "patch_turned(run)", "patch_slides(run)",
    ),
    "patchform": ("patch_normal(patches)",),
    "patchrun": (
        "patch_gather_count(patches, lot)", "patch_gather_run(patches, lot)", "patch_normal_run(patches)",
        "patch_run_between(one, other)",
    ),
    "patchcount": ("connected_patches(b, k, many)", "patch_class_size(patches)"),
    "arrows": ("made_arrows(n, bundles)", "arrow_handy(arrows)"),
    "arrowlots": ("arrow_lots(arrows)", "arrow_ledger(arrows)", "arrow_joined(one, other)"),
    "arrowdeeds": (
        "arrow_done(arrows, deed)", "arrow_offers(arrows)", "arrow_walked(arrows, run)",
        "arrow_run_right(arrows, run, goal)", "arrow_turned(run)", "arrow_slides(run)",
    ),
    "arrowwalks": ("homes_run(arrows, lot)", "spare_run(arrows, u, v, w)", "swap_run(arrows, a, y, b, z)"),
    "arrowform": ("arrow_normal(arrows)", "arrow_normal_run(arrows)", "arrow_run_between(one, other)"),
    "arrowcount": ("connected_arrows(outs)", "arrow_class_size(arrows)"),
    "ledgerforms": ("is_ledger(n, wheel, coats, rule, thing)", "written(n, wheel, coats, rule, thing)"),
    "ledgerlist": ("all_ledgers(n, many, M)",),
    "webtext": ("text_of_web(web)", "web_of(text)"),
    "runtext": ("text_of_run(run)", "run_of(text)"),
    "bagtext": ("text_of_patches(patches)", "text_of_arrows(arrows)", "patches_of(text)", "arrows_of(text)"),
    "ledgertext": ("text_of_ledger(rule, ledger)", "ledger_of(rule, text)"),
    "floorasks": ("can_go_home(floor)", "way_home(floor)", "why_not(floor)", "kin(floor)"),
    "saysfloor": ("answer(floor, row)", "asked(floor, row)"),
}

# The methods of the class Floor, with their arguments but self.
FLOOR = (
    "web()", "marked()", "made()", "record()", "carry(u, v, length, coat, w, rail, railcoat, *, j=1)",
    "around(u, v, length, coat, w, out, outcoat, back, backcoat, *, j=1, q=1)", "lay(u, v, length, coat, count)",
    "lift(u, v, length, coat, count)", "mark()", "undo()", "redo()",
)


class InterfaceTest(unittest.TestCase):
    def test_functions(self):
        for file, calls in FUNCTIONS.items():
            module = importlib.import_module("carriedends." + file)
            for call in calls:
                with self.subTest(file=file, call=call):
                    name = call.split("(")[0]
                    function = getattr(module, name)
                    self.assertTrue(inspect.isfunction(function))
                    self.assertEqual(function.__module__, module.__name__)
                    self.assertEqual(name + str(inspect.signature(function)), call)

    def test_classes_that_compare_by_themselves(self):
        for file, name in (("webs", "Web"), ("patches", "Patches"), ("arrows", "Arrows")):
            module = importlib.import_module("carriedends." + file)
            found = getattr(module, name)
            self.assertTrue(inspect.isclass(found))
            self.assertEqual(found.__module__, module.__name__)
            self.assertIn("__eq__", vars(found))

    def test_floor(self):
        found = importlib.import_module("carriedends.floor").Floor
        self.assertEqual(found.__module__, "carriedends.floor")
        self.assertEqual(str(inspect.signature(found)), "(web)")
        for call in FLOOR:
            name = call.split("(")[0]
            self.assertIn(name, vars(found))
            self.assertEqual(name + str(inspect.signature(vars(found)[name])).replace("(self, ", "(").replace("(self)", "()"), call)

    def test_attributes(self):
        # They are set on each object when it is created.
        for file, name, attributes in (
            ("webs", "Web", ("n", "wheel", "coats", "rule", "bundles")), ("patches", "Patches", ("n", "k", "bundles")),
            ("arrows", "Arrows", ("n", "bundles")),
        ):
            found = getattr(importlib.import_module("carriedends." + file), name)
            made = found(*attributes)
            self.assertEqual([getattr(made, attribute) for attribute in attributes], list(attributes))


if __name__ == "__main__":
    unittest.main()
