"""The interface: all names stand where the document lists them, with the arguments it writes."""

import importlib
import inspect
import unittest

FUNCTIONS = {
    "seas": ("is_sea(thing)", "is_standing(sea, thing)", "other_side(sea, standing)", "turned_sea(sea)"),
    "crossing": ("afloat_ones(sea, standing)", "may_cross(sea, standing)", "crossed(sea, standing, ship)",
                 "crossed_all(sea, standing, row)"),
    "steps": ("mark_at(sea, step)", "goers_at(sea, step)", "top_step(sea)", "window_of(sea, ship)"),
    "reach": ("most_here(sea, standing)", "least_here(sea, standing)", "movers_of(sea, standing)",
              "comes_to(sea, one, other)"),
    "bars": ("bar_of(sea, one, other)", "shows_bar(sea, one, other, thing)"),
    "far": ("how_far(sea, one, other)", "nearer_ones(sea, one, other)", "row_to(sea, one, other)",
            "shows_row(sea, one, other, thing)"),
    "lacks": ("lack_of(sea, one, other)", "shows_lack(sea, one, other, many, thing)"),
    "prices": ("cheapest(sea, one, other, prices)", "paid(prices, row)"),
    "fleets": ("is_fleet(thing)", "sea_of(fleet)", "fleet_most(fleet)", "fleet_least(fleet)", "fleet_movers(fleet)",
               "fleet_comes(one, other)"),
    "dredging": ("deepened(sea, side, more)", "least_dredged(sea, one, other, side)",
                 "freed_by(sea, standing, side)"),
    "counting": ("family_size(sea, standing)", "families_many(sea)"),
    "otherwise": ("renumbered(sea, order)", "renumbered_standing(order, standing)", "sunk(sea, standing, ship)"),
    "texts": ("sea_text(sea)", "sea_in(text)", "standing_text(standing)", "standing_in(sea, text)"),
    "desk": ("answers(text)",),
}
METHODS = ("__init__(self, here, there)", "moor(self, draught, side)", "leave(self, ship)", "cross(self, ship)",
           "sail(self, row)", "dredge(self, side, more)", "undo(self)", "sea(self)", "standing(self)",
           "may_go(self)", "movers(self)", "crossings(self)", "deeds(self)", "as_of(self, many)", "twin(self)",
           "log(self)", "__eq__(self, other)", "__len__(self)", "__repr__(self)")


def written(name, function):
    return f"{name}{inspect.signature(function)}"


class InterfaceTests(unittest.TestCase):
    def test_functions(self):
        for file, functions in FUNCTIONS.items():
            module = importlib.import_module(f"shoalmates.{file}")
            for function in functions:
                name = function.split("(")[0]
                self.assertEqual(written(name, getattr(module, name)), function)
                self.assertEqual(getattr(module, name).__module__, module.__name__)

    def test_harbour(self):
        harbour = importlib.import_module("shoalmates.harbour").Harbour
        for method in METHODS:
            name = method.split("(")[0]
            self.assertEqual(written(name, vars(harbour)[name]), method)
        self.assertEqual(harbour.__bases__, (object,))


if __name__ == "__main__":
    unittest.main()
