"""The names, arguments and defaults of the interface, module by module, as the document lists them."""

import importlib
import inspect
import unittest

HALVES = ((1, 2), (1, 2))
WORK = "chooser='layers', filling='rows', place=(0, 0), tip=None, walk=False"

FUNCTIONS = {
    "ratios": ["exact(value)", "is_number(value)", "plus(a, b)", "minus(a, b)", "times(a, b)", "over(a, b)",
               "compare(a, b)", "least(numbers)", "greatest_of(numbers)", "in_order(numbers)", "number_text(a)"],
    "patches": ["dot(x, y)", "segment(x0, y0, x1, y1)", "rectangle(x0, y0, x1, y1)"],
    "sets": ["joined(*patches)", "common(p, q)", "less(p, q)", "cut_out(p, q)", "full(p)", "within(p, q)",
             "insides_meet(p, q)"],
    "measures": ["size(p)", "box(p)", "first_point(p)", "parts(p)", "moved(p, dx, dy)", "turned(p)"],
    "rings": ["of_rings(rings, rule='some')", "hull(points)"],
    "feet": ["grown(p, h, v)", "drawn_in(p, h, v)", "off(p, stuff, h, v)"],
    "rims": ["rim(p)", "cells(p)", "way(p, start, goal)"],
    "nets": ["open_edges(net)", "is_closed(net)", "volume(net)"],
    "mending": ["welded(net)", "jointed(net)", "faced(net)", "capped(net)"],
    "makers": ["loft(lower, z0, upper, z1)", "together(*nets)", "placed(net, table, shift)", "net_of(heights, bodies)"],
    "slices": ["slice_above(net, z, *, rule='some')", "slice_below(net, z, *, rule='some')"],
    "setups": ["new_bed(setup)", "checked_standing(setup, standing)"],
    "slabs": ["shadow(net, z0, z1)", "slab(net, z0, z1, *, mode='low', rule='some')",
              "wanted_of(setup, net, *, mode='low', rule='some')"],
    "greatest": ["greatest(wanted, standing=None)", "kept(wanted, standing=None)", "lost(wanted, standing)",
                 "left_out(wanted, standing=None)", "is_barred(setup, layer, x, y, standing=None)"],
    "fillings": ["row_strokes(c, h, v)", "column_strokes(c, h, v)", "ring_strokes(c, h, v)", "tree_strokes(c, h, v)",
                 "shrunk(c, h, v)", "wall_strokes(c, h, v, walls)", "spared(strokes, h, v)", "laid(strokes, h, v)",
                 "strokes_of(c, h, v, filling)"],
    "props": ["props(wanted, standing=None)", "islands(wanted, standing=None)", "load(wanted, layer, standing=None)",
              "hanging_without(wanted, layer, place, standing=None)"],
    "papers": ["flaw(wanted, paper, standing=None)", "certificate(wanted, layer, point, standing=None)"],
    "jobs": ["job_hits(setup, one, other)"],
    "coderows": ["is_row(setup, value)", "write_code(code)", "read_code(text)", "shortened(row, place, share)"],
    "makings": ["hop_rows(setup, standing, place, tip, goal, height)",
                f"house_code(wanted, *, standing=None, {WORK})"],
    "falls": ["first_loss(wanted, code, *, standing=None)"],
    "reports": ["report(wanted, standing=None)"],
}

MACHINE = ["__init__(self, setup, *, standing=None, wanted=None, careful=False)", "do(self, row)", "do_all(self, *rows)",
           "run(self, code, *, cut=None, skip=False)", "__call__(self, line)", "twin(self)", "__repr__(self)"]

CLASSES = {
    "patches": {"Patch": ["row_at(self, y)", "has(self, x, y)", "has_inside(self, x, y)", "strips(self)",
                          "__contains__(self, x)", "__eq__(self, other)", "__bool__(self)", "__repr__(self)"]},
    "nets": {"Net": ["__init__(self, corners, faces)", "__eq__(self, other)"]},
    "setups": {"Setup": [f"__init__(self, heights, bed, *, foot={HALVES}, carriage=None, gap=0, reach=(0, 0), raster=())",
                         "layer_at(self, z)", "__eq__(self, other)"],
               "Wanted": ["__init__(self, setup, slices)"]},
    "greatest": {"Greatest": []},
    "papers": {"Paper": ["__init__(self, layer, point, pieces)", "__eq__(self, other)", "__len__(self)"]},
    "jobs": {"Job": [], "Plan": ["__init__(self, wanted, standing=None)", "hits(self, one, other)", "stands(self, done)",
                                 "why_not(self, number, done)", "ready(self, done)", "can_come(self, done)",
                                 "is_order(self, numbers)", "count_orders(self)", "order_at(self, index)",
                                 "rank_of(self, order)", "least_lot(self, number)"]},
    "printers": {"Printer": MACHINE},
    "quick": {"QuickPrinter": MACHINE},
    "makings": {"Making": [f"__init__(self, wanted, *, standing=None, {WORK})", "ready(self)", "choice(self)",
                           "lay(self, number=None)", "steps(self)", "code(self)", "twin(self)", "__repr__(self)"]},
    "benches": {"Bench": ["__init__(self, *wanteds)", "ahead(self, x, y)", "order(self)", "code(self, order)",
                          "__len__(self)"]},
}

PROPERTIES = {("setups", "Setup"): ["layers"], ("makings", "Making"): ["place", "tip", "standing", "done"],
              ("printers", "Printer"): ["place", "tip", "clock", "used", "standing", "busy"],
              ("quick", "QuickPrinter"): ["place", "tip", "clock", "used", "standing", "busy"]}

CONSTANTS = {"rings": {"SOME": "some", "OVER": "over", "ODD": "odd"},
             "slabs": {"LOW": "low", "HIGH": "high", "MIDDLE": "middle", "SURE": "sure", "ALL": "all"}}


def module(name):
    return importlib.import_module("mostlaid." + name)


def shown(function):
    return f"{function.__name__}{inspect.signature(function)}"


class InterfaceTest(unittest.TestCase):
    def test_functions(self):
        for name, listed in FUNCTIONS.items():
            for text in listed:
                function = getattr(module(name), text.split("(")[0])
                self.assertEqual(shown(function), text)
                self.assertEqual(function.__module__, "mostlaid." + name)

    def test_classes(self):
        for name, classes in CLASSES.items():
            for word, methods in classes.items():
                kind = getattr(module(name), word)
                self.assertEqual(kind.__module__, "mostlaid." + name)
                for text in methods:
                    self.assertEqual(shown(vars(kind)[text.split("(")[0]]), text)

    def test_constants(self):
        for name, constants in CONSTANTS.items():
            for word, value in constants.items():
                self.assertEqual(getattr(module(name), word), value)

    def test_even(self):
        kind = module("setups").Setup
        self.assertIsInstance(vars(kind)["even"], classmethod)
        self.assertEqual(shown(kind.even), "even(layers, bed, thickness=1)")

    def test_properties(self):
        for (name, word), listed in PROPERTIES.items():
            kind = getattr(module(name), word)
            for text in listed:
                self.assertIsInstance(vars(kind)[text], property)
                self.assertIsNone(vars(kind)[text].fset)


if __name__ == "__main__":
    unittest.main()
