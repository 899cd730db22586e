import unittest

from mostlaid.errors import BadLayers, BadRow, BadSetup, BadText, Hangs, Loses, NoLayer, Outside, Touch
from mostlaid.greatest import greatest, kept
from mostlaid.makings import house_code
from mostlaid.patches import rectangle
from mostlaid.printers import Printer
from mostlaid.quick import QuickPrinter
from mostlaid.rings import of_rings
from mostlaid.sets import joined, within
from mostlaid.setups import Setup, Wanted

from tests.bodies import BED, EMPTY, HALF, LEFT, POSTS, RIGHT, SQUARE, WRONG_STANDINGS, two_layers
from tests.cases import RefusalCase
from tests.reference import numbers
from tests.slow import SlowPrinter, answers, random_case, random_row, rng_of, spots_of, told
from tests.test_coderows import NO_ROWS, WRONG_LINES

KINDS = (Printer, QuickPrinter)
SETUP = Setup([0, 1, (5, 2)], BED)
NEW = (numbers(0, 0), (5, 2), (0, 1), (0, 1), (EMPTY, EMPTY))
BEAM = rectangle(0, 0, 4, 1)


def at(kind, setup, spot, tip, **more):
    """A printer at a place that is reached from above, with its tip at a height."""
    printer = kind(setup, **more)
    printer.do(("go",) + spot)
    printer.do(("high", tip))
    return printer


class MachineCase(RefusalCase):
    def unchanged(self, printer, kind, row, *values):
        """Looks at the error of a row, and that the printer is as it was."""
        before = answers(printer)
        self.refuses(kind, lambda: printer.do(row), *values)
        self.assertEqual(answers(printer), before)
        self.assertFalse(printer.busy)


class NewTest(MachineCase):
    def test_a_new_printer(self):
        for kind in KINDS:
            printer = kind(SETUP)
            self.assertEqual(answers(printer), NEW)
            self.assertIs(printer.busy, False)
            self.assertIsInstance(printer.standing, tuple)
            standing = [LEFT, RIGHT]
            printer = kind(setup=SETUP, standing=standing, wanted=None, careful=False)
            standing[0] = EMPTY
            self.assertEqual(printer.standing, (LEFT, RIGHT))
            self.assertEqual(printer.used, (0, 1))

    def test_repr(self):
        for many in (1, 2, 8):
            setup = Setup.even(many, BED)
            self.assertEqual(repr(Printer(setup)), f"Printer({many} layers)")
            self.assertEqual(repr(QuickPrinter(setup)), f"QuickPrinter({many} layers)")

    def test_refusals(self):
        wanted = two_layers(SQUARE, SQUARE)
        for kind in KINDS:
            for standing, layer in WRONG_STANDINGS:
                self.refuses(BadLayers, lambda: kind(wanted.setup, standing=standing), layer)
                self.refuses(BadLayers, lambda: kind(wanted.setup, standing=standing, careful=True), layer)
                self.refuses(BadLayers, lambda: kind(wanted.setup, standing=standing, wanted=wanted), layer)
            self.refuses(BadSetup, lambda: kind(wanted.setup, careful=True), "careful")
            self.refuses(BadSetup, lambda: kind(wanted.setup, standing=(SQUARE, EMPTY), careful=True), "careful")
            for careful in (False, None, 1, "True", (True,), 0):
                kind(wanted.setup, careful=careful)
            kind(wanted.setup, wanted=wanted, careful=True)

    def test_only_true_makes_careful(self):
        wanted = two_layers(POSTS, POSTS, carriage=(2, HALF))
        rows = [("go", HALF, HALF), ("high", 1), ("lay", HALF, HALF), ("high", 2), ("lay", HALF, HALF)]
        for kind in KINDS:
            for careful in (1, "True", (True,), None, False):
                self.assertEqual(kind(wanted.setup, wanted=wanted, careful=careful).run(rows), [])
            self.assertEqual(kind(wanted.setup, wanted=wanted, careful=True).run(rows), [(4, "Loses")])


class RowTest(MachineCase):
    def test_bad_rows(self):
        for kind in KINDS:
            printer = at(kind, SETUP, (1, 1), 1)
            for row in NO_ROWS:
                before = answers(printer)
                error = self.refuses(BadRow, lambda: printer.do(row), row)
                self.assertIs(error.row, row)
                self.assertEqual(answers(printer), before)

    def test_moves(self):
        for kind in KINDS:
            printer = kind(SETUP)
            self.assertIsNone(printer.do(("go", 3, -4)))
            self.assertEqual(answers(printer), (numbers(3, -4), (5, 2), (4, 1), (0, 1), (EMPTY, EMPTY)))
            printer.do(row=("high", 1))
            self.assertEqual((printer.tip, printer.clock), ((1, 1), (11, 2)))
            printer.do(("high", HALF))
            printer.do(("high", (9, 4)))
            self.assertEqual((printer.tip, printer.clock), ((9, 4), (31, 4)))
            printer.do(("go", (-1, 2), HALF))
            self.assertEqual((printer.place, printer.clock), (((-1, 2), HALF), (49, 4)))
            printer.do(("go", (-1, 2), HALF))
            self.assertEqual(printer.clock, (49, 4))

    def test_lays(self):
        for kind in KINDS:
            printer = at(kind, SETUP, (1, 1), 1)
            self.assertEqual(printer.clock, (5, 2))
            printer.do(("lay", 1, 1))
            foot = rectangle(HALF, HALF, (3, 2), (3, 2))
            self.assertEqual(answers(printer), (numbers(1, 1), (1, 1), (5, 2), (1, 1), (foot, EMPTY)))
            printer.do(("lay", 3, 1))
            bar = rectangle(HALF, HALF, (7, 2), (3, 2))
            self.assertEqual(answers(printer), (numbers(3, 1), (1, 1), (9, 2), (3, 1), (bar, EMPTY)))
            printer.do(("lay", 1, 1))
            self.assertEqual(answers(printer), (numbers(1, 1), (1, 1), (13, 2), (3, 1), (bar, EMPTY)))
            printer.do(("high", (5, 2)))
            printer.do(("lay", 2, 1))
            upper = rectangle(HALF, HALF, (5, 2), (3, 2))
            self.assertEqual(answers(printer), (numbers(2, 1), (5, 2), (9, 1), (6, 1), (bar, upper)))

    def test_used_counts_only_what_is_new(self):
        for kind in KINDS:
            printer = at(kind, SETUP, (HALF, HALF), (5, 2), standing=[BEAM, LEFT])
            printer.do(("lay", HALF, HALF))
            self.assertEqual(printer.used, (0, 1))
            printer.do(("lay", (7, 2), HALF))
            self.assertEqual((printer.used, printer.standing), ((9, 2), (BEAM, BEAM)))

    def test_leaning_lays(self):
        for kind in KINDS:
            printer = at(kind, SETUP, (1, 1), 1)
            printer.do(("lay", 3, 2))
            corners = [(HALF, HALF), ((3, 2), HALF), ((7, 2), (3, 2)), ((7, 2), (5, 2)), ((5, 2), (5, 2)), (HALF, (3, 2))]
            self.assertEqual(printer.standing[0], of_rings([corners]))
            self.assertEqual((printer.clock, printer.used), ((9, 2), (4, 1)))

    def test_no_layer(self):
        for kind in KINDS:
            for tip in (0, HALF, (3, 2), (9, 4)):
                printer = at(kind, SETUP, (50, 50), tip)
                self.unchanged(printer, NoLayer, ("lay", 50, 50), tip if isinstance(tip, tuple) else (tip, 1))
                self.unchanged(printer, BadRow, ("lay", 50, True), ("lay", 50, True))

    def test_no_layer_ahead_of_touch(self):
        for kind in KINDS:
            printer = at(kind, SETUP, (9, HALF), HALF, standing=[POSTS, EMPTY])
            self.unchanged(printer, NoLayer, ("lay", 1, HALF), HALF)
            self.unchanged(printer, Touch, ("go", 1, HALF), "foot", 1)


class TouchTest(MachineCase):
    def test_foot(self):
        block = rectangle(4, 4, 6, 6)
        for kind in KINDS:
            printer = at(kind, SETUP, (2, 5), 1, standing=[block, block])
            self.unchanged(printer, Touch, ("go", (18, 5), 5), "foot", 2)
            self.unchanged(printer, Touch, ("lay", 9, 5), "foot", 2)
            printer.do(("go", (7, 2), 5))
            printer.do(("high", 0))
            self.unchanged(printer, Touch, ("go", (71, 20), 5), "foot", 1)
            self.unchanged(printer, Touch, ("go", 9, 5), "foot", 1)
            printer.do(("go", (7, 2), (7, 2)))
            printer.do(("go", 9, (7, 2)))
            self.unchanged(printer, Touch, ("go", (7, 2), (71, 20)), "foot", 1)

    def test_high(self):
        block = rectangle(4, 4, 6, 6)
        for kind in KINDS:
            printer = at(kind, SETUP, (5, 5), (5, 2), standing=[block, block])
            self.unchanged(printer, Touch, ("high", 2), "foot", 2)
            self.unchanged(printer, Touch, ("high", 0), "foot", 1)
            printer.do(("high", (5, 2)))
            printer = at(kind, SETUP, (5, 5), 1, standing=[block, EMPTY])
            self.unchanged(printer, Touch, ("high", (99, 100)), "foot", 1)
            printer = at(kind, SETUP, (7, 5), 0, standing=[EMPTY, block])
            printer.do(("high", (5, 2)))

    def test_a_tip_within_a_layer(self):
        for kind in KINDS:
            printer = at(kind, SETUP, (2, HALF), 2, standing=[EMPTY, LEFT])
            self.unchanged(printer, Touch, ("go", 0, HALF), "foot", 2)
            printer.do(("go", (3, 2), HALF))
            self.unchanged(printer, Touch, ("go", (149, 100), HALF), "foot", 2)

    def test_a_foot_fits_exactly_between(self):
        for kind in KINDS:
            printer = at(kind, SETUP, ((3, 2), 2), 1, standing=[POSTS, POSTS])
            printer.do(("go", (3, 2), -1))
            self.unchanged(printer, Touch, ("go", 2, 2), "foot", 2)
            self.unchanged(printer, Touch, ("go", 1, 2), "foot", 2)
            printer.do(("go", (3, 2), 2))
            self.assertEqual(printer.clock, (19, 2))

    def test_carriage(self):
        for gap, wished in ((0, "carriage"), (HALF, "carriage"), ((3, 2), None)):
            setup = Setup([0, 1, (5, 2)], BED, carriage=(2, 1), gap=gap)
            for kind in KINDS:
                printer = at(kind, setup, (9, HALF), 1, standing=[POSTS, LEFT])
                self.unchanged(printer, Touch, ("go", 1, HALF), "foot", 2)
                printer.do(("go", 3, HALF))
                if wished:
                    self.unchanged(printer, Touch, ("go", (299, 100), HALF), wished, 2)
                    self.unchanged(printer, Touch, ("lay", 2, HALF), wished, 2)
                    printer.do(("go", 3, 2))
                    printer.do(("go", 0, 2))
                    self.unchanged(printer, Touch, ("go", 0, (199, 100)), wished, 2)
                else:
                    printer.do(("go", (3, 2), HALF))

    def test_the_foot_is_named_ahead_of_the_carriage(self):
        setup = Setup([0, 1, 2, 3], BED, carriage=(3, 3))
        for kind in KINDS:
            printer = at(kind, setup, (9, 9), 0, standing=[rectangle(3, 0, 4, 1), rectangle(2, 0, 3, 1), LEFT])
            printer.do(("high", 3))
            printer.do(("go", HALF, HALF))
            self.unchanged(printer, Touch, ("high", 0), "foot", 3)
            printer.do(("go", (5, 2), HALF))
            self.unchanged(printer, Touch, ("high", 0), "foot", 2)
            self.unchanged(printer, Touch, ("high", 2), "carriage", 3)
            self.unchanged(printer, Touch, ("high", 1), "foot", 2)
            printer.do(("go", (11, 2), HALF))
            self.unchanged(printer, Touch, ("high", 0), "carriage", 1)
            self.unchanged(printer, Touch, ("high", 1), "carriage", 2)
            printer.do(("high", 2))

    def test_gaps_by_a_hair(self):
        for kind in KINDS:
            for gap, fits in (((3, 2), True), ((149, 100), False)):
                setup = Setup([0, 1, (5, 2)], BED, carriage=(1, 1), gap=gap)
                printer = at(kind, setup, (9, 9), 1, standing=[EMPTY, LEFT])
                if fits:
                    printer.do(("go", (3, 2), HALF))
                    self.unchanged(printer, Touch, ("high", (99, 100)), "carriage", 2)
                else:
                    self.unchanged(printer, Touch, ("go", (3, 2), HALF), "carriage", 2)

    def test_touch_ahead_of_hangs(self):
        for kind in KINDS:
            printer = at(kind, SETUP, (9, HALF), 1, standing=[EMPTY, LEFT])
            self.unchanged(printer, Touch, ("lay", -5, HALF), "foot", 2)


class HangsTest(MachineCase):
    def test_the_bed(self):
        for kind in KINDS:
            printer = at(kind, Setup([0, 1], (0, 0, 10, 10)), (0, 0), 1)
            self.unchanged(printer, Hangs, ("lay", 1, 1), ((-1, 2), (-1, 2)))
            printer.do(("go", HALF, HALF))
            printer.do(("lay", (19, 2), HALF))
            self.unchanged(printer, Hangs, ("lay", (191, 20), HALF), numbers(10, 0))
            self.unchanged(printer, Hangs, ("lay", (19, 2), (191, 20)), numbers(9, 10))

    def test_the_layer_below(self):
        for kind in KINDS:
            printer = at(kind, SETUP, (HALF, HALF), (5, 2), standing=[BEAM, EMPTY])
            self.unchanged(printer, Hangs, ("lay", 4, HALF), numbers(4, 0))
            printer.do(("lay", (7, 2), HALF))
            self.unchanged(printer, Hangs, ("lay", (71, 20), HALF), numbers(4, 0))
            self.unchanged(printer, Hangs, ("lay", HALF, (11, 20)), numbers(0, 1))

    def test_the_reach(self):
        for reach, far in (((0, 0), (7, 2)), ((1, 0), (9, 2)), ((HALF, HALF), 4)):
            setup = Setup([0, 1, 2], BED, reach=reach)
            for kind in KINDS:
                printer = at(kind, setup, (HALF, HALF), 2, standing=[BEAM, EMPTY])
                printer.do(("lay", far, HALF))
                before = printer.standing
                with self.assertRaises(Hangs):
                    printer.do(("lay", 5, HALF))
                self.assertEqual(printer.standing, before)

    def test_rest_on_what_has_been_laid(self):
        for kind in KINDS:
            printer = at(kind, Setup([0, 1, 2], BED, reach=(1, 1)), (HALF, HALF), 1)
            printer.do(("lay", (3, 2), HALF))
            printer.do(("high", 2))
            printer.do(("lay", (5, 2), HALF))
            self.unchanged(printer, Hangs, ("lay", (5, 2), (8, 3)), numbers(2, 2))

    def test_hangs_ahead_of_outside(self):
        wanted = two_layers(LEFT, LEFT)
        for kind in KINDS:
            printer = at(kind, wanted.setup, (HALF, HALF), 2, wanted=wanted)
            self.unchanged(printer, Hangs, ("lay", 9, 9), numbers(0, 0))


class GuardedTest(MachineCase):
    def test_outside(self):
        wanted = two_layers(BEAM, LEFT)
        for kind in KINDS:
            printer = at(kind, wanted.setup, (HALF, HALF), 1, wanted=wanted)
            self.unchanged(printer, Outside, ("lay", (71, 20), HALF), numbers(4, 0))
            self.unchanged(printer, Outside, ("lay", 9, HALF), numbers(4, 0))
            printer.do(("lay", (7, 2), HALF))
            printer.do(("high", 2))
            self.unchanged(printer, Outside, ("lay", (7, 2), HALF), numbers(3, 0))
            printer.do(("go", HALF, HALF))
            printer.do(("lay", HALF, HALF))
            self.assertEqual(printer.standing, (BEAM, LEFT))

    def test_props(self):
        raster = [((3, 2), HALF), ((7, 4), (11, 2)), (4, 4)]
        wanted = two_layers(LEFT, EMPTY, raster=raster)
        for kind in KINDS:
            printer = at(kind, wanted.setup, ((3, 2), HALF), 1, wanted=wanted)
            printer.do(("lay", (3, 2), HALF))
            self.assertEqual(printer.standing, (rectangle(1, 0, 2, 1), EMPTY))
            self.unchanged(printer, Outside, ("lay", 4, 4), numbers(1, 0))
            printer.do(("go", 4, 4))
            printer.do(("lay", (4, 1), 4))
            self.unchanged(printer, Outside, ("lay", (7, 4), (11, 2)), ((7, 2), (7, 2)))
            printer.do(("go", (5, 2), HALF))
            self.unchanged(printer, Outside, ("lay", (5, 2), HALF), numbers(2, 0))
            printer.do(("high", 2))
            printer.do(("go", 4, 4))
            printer.do(("lay", 4, 4))

    def test_props_that_meet_the_slice(self):
        for slice_of, fits in ((LEFT, True), (rectangle(0, 0, (101, 100), 1), False)):
            wanted = two_layers(slice_of, EMPTY, raster=[((3, 2), HALF)])
            for kind in KINDS:
                printer = at(kind, wanted.setup, ((3, 2), HALF), 1, wanted=wanted)
                if fits:
                    printer.do(("lay", (3, 2), HALF))
                else:
                    self.unchanged(printer, Outside, ("lay", (3, 2), HALF), ((101, 100), (0, 1)))

    def test_unguarded_printers_lay_anywhere(self):
        for kind in KINDS:
            printer = at(kind, SETUP, (7, 7), 1)
            printer.do(("lay", 8, 9))
            self.assertTrue(printer.standing[0])


class CarefulTest(MachineCase):
    def test_posts_in_the_wrong_sequence(self):
        wanted = two_layers(POSTS, POSTS, carriage=(2, HALF), gap=HALF)
        for kind in KINDS:
            printer = at(kind, wanted.setup, (HALF, HALF), 1, wanted=wanted, careful=True)
            printer.do(("lay", HALF, HALF))
            printer.do(("high", 2))
            self.unchanged(printer, Loses, ("lay", HALF, HALF), 1)
            bold = at(kind, wanted.setup, (HALF, HALF), 1, wanted=wanted)
            bold.do_all(("lay", HALF, HALF), ("high", 2), ("lay", HALF, HALF))
            self.assertEqual(bold.standing, (LEFT, LEFT))
            printer.do_all(("go", (5, 2), HALF), ("high", 1), ("lay", (5, 2), HALF), ("high", 2), ("lay", (5, 2), HALF),
                           ("go", HALF, HALF), ("lay", HALF, HALF))
            self.assertEqual(printer.standing, (POSTS, POSTS))

    def test_the_lowest_layer_is_named(self):
        wanted = Wanted(Setup([0, 1, 2, 3], BED), [joined(LEFT, RIGHT), SQUARE, SQUARE])
        standing = [SQUARE, LEFT, EMPTY]
        for kind in KINDS:
            printer = at(kind, wanted.setup, (HALF, HALF), 3, standing=standing, wanted=wanted, careful=True)
            printer.do(("lay", HALF, HALF))
            printer = at(kind, wanted.setup, (1, 1), 2, standing=[SQUARE, EMPTY, EMPTY], wanted=wanted, careful=True)
            printer.do(("lay", 1, 1))
            printer.do(("high", 3))
            self.unchanged(printer, Loses, ("lay", 1, 1), 2)

    def test_outside_ahead_of_loses(self):
        wanted = two_layers(POSTS, LEFT)
        for kind in KINDS:
            printer = at(kind, wanted.setup, (HALF, HALF), 2, standing=[rectangle(0, 0, 2, 1), EMPTY], wanted=wanted,
                         careful=True)
            self.unchanged(printer, Outside, ("lay", 1, HALF), numbers(1, 0))

    def test_props_that_lose(self):
        wanted = two_layers(joined(LEFT, rectangle(2, 0, 3, 1)), EMPTY, raster=[(2, HALF), (3, 1)])
        for kind in KINDS:
            printer = at(kind, wanted.setup, (3, 1), 2, standing=[rectangle(0, 0, 2, 1), EMPTY], wanted=wanted, careful=True)
            with self.assertRaises(Hangs):
                printer.do(("lay", 3, 1))
            printer = at(kind, wanted.setup, (2, HALF), 2, standing=[rectangle(1, 0, (5, 2), 1), EMPTY], wanted=wanted,
                         careful=True)
            self.unchanged(printer, Loses, ("lay", 2, HALF), 1)


class RunTest(MachineCase):
    CODE = [("go", HALF, HALF), ("high", 1), ("lay", (7, 2), HALF), ("lay", -4, 0), None, ("high", 2), ("lay", HALF, HALF),
            ("high", 9), ("go", 3, 3)]

    def test_without_skip(self):
        setup = Setup([0, 1, 2], BED)
        for kind in KINDS:
            printer = kind(setup)
            self.assertEqual(printer.run(self.CODE), [(3, "Hangs")])
            self.assertEqual(answers(printer), (((7, 2), HALF), (1, 1), (9, 2), (4, 1), (BEAM, EMPTY)))
            self.assertEqual(kind(setup).run(code=tuple(self.CODE[:3]), cut=None, skip=False), [])
            self.assertEqual(kind(setup).run([]), [])

    def test_with_skip(self):
        setup = Setup([0, 1, 2], BED)
        for kind in KINDS:
            printer = kind(setup)
            self.assertEqual(printer.run(self.CODE, skip=True), [(3, "Hangs"), (4, "BadRow"), (7, "BadRow")])
            self.assertEqual(answers(printer), (numbers(3, 3), (2, 1), (11, 1), (8, 1), (BEAM, BEAM)))
            self.assertIs(printer.busy, False)

    def test_names_of_all_errors(self):
        wanted = two_layers(POSTS, POSTS, carriage=(2, HALF), gap=HALF)
        code = [7, ("high", HALF), ("lay", 0, 0), ("high", 1), ("go", HALF, HALF), ("lay", HALF, HALF), ("lay", 2, HALF),
                ("lay", -4, HALF), ("high", 0), ("high", 2), ("lay", HALF, HALF), ("lay", (5, 2), HALF)]
        for kind in KINDS:
            printer = kind(wanted.setup, wanted=wanted, careful=True)
            self.assertEqual(printer.run(code, skip=True),
                             [(0, "BadRow"), (2, "NoLayer"), (6, "Outside"), (7, "Hangs"), (8, "Touch"), (10, "Loses"),
                              (11, "Hangs")])

    def test_cuts(self):
        setup = Setup([0, 1, 2], BED)
        for kind in KINDS:
            printer = kind(setup)
            self.assertEqual(printer.run(self.CODE, cut=(2, HALF)), [])
            laid = rectangle(0, 0, (5, 2), 1)
            self.assertEqual(answers(printer), (((2, 1), HALF), (2, 1), (4, 1), (5, 2), (laid, EMPTY)))
            printer = kind(setup)
            self.assertEqual(printer.run(self.CODE, cut=(2, 0)), [])
            self.assertEqual(answers(printer), ((HALF, HALF), (2, 1), (5, 2), (1, 1), (LEFT, EMPTY)))
            printer = kind(setup)
            self.assertEqual(printer.run(self.CODE, cut=(2, 1)), [])
            self.assertEqual(answers(printer), (((7, 2), HALF), (2, 1), (11, 2), (4, 1), (BEAM, EMPTY)))
            printer = kind(setup)
            self.assertEqual(printer.run(self.CODE, cut=(1, (2, 3))), [])
            self.assertEqual(answers(printer), ((HALF, HALF), (2, 1), HALF, (0, 1), (EMPTY, EMPTY)))
            printer = kind(setup)
            self.assertEqual(printer.run(self.CODE, cut=(0, (1, 3))), [])
            self.assertEqual(answers(printer), (((1, 6), (1, 6)), (2, 1), (1, 6), (0, 1), (EMPTY, EMPTY)))

    def test_cuts_in_refused_rows(self):
        setup = Setup([0, 1, 2], BED)
        for kind in KINDS:
            printer = kind(setup)
            self.assertEqual(printer.run(self.CODE, cut=(3, 1)), [(3, "Hangs")])
            self.assertEqual((printer.place, printer.tip, printer.clock), (((7, 2), HALF), (2, 1), (11, 2)))
            printer = kind(setup)
            self.assertEqual(printer.run(self.CODE, cut=(3, 0)), [])
            self.assertEqual(printer.standing, (BEAM, EMPTY))
            printer = kind(setup)
            self.assertEqual(printer.run(self.CODE, cut=(4, 1), skip=True), [(3, "Hangs"), (4, "BadRow")])
            self.assertEqual(kind(setup).run(self.CODE, cut=(7, 1), skip=True), [(3, "Hangs"), (4, "BadRow"), (7, "BadRow")])
            printer = kind(setup)
            self.assertEqual(printer.run(self.CODE, cut=(6, 1)), [(3, "Hangs")])
            self.assertEqual((printer.standing, printer.tip), ((BEAM, EMPTY), (2, 1)))
            printer = kind(setup)
            self.assertEqual(printer.run(self.CODE, cut=(6, (1, 3)), skip=True), [(3, "Hangs"), (4, "BadRow")])
            self.assertEqual(printer.standing, (BEAM, rectangle(2, 0, 4, 1)))

    def test_cuts_beyond_the_code(self):
        setup = Setup([0, 1, 2], BED)
        code = self.CODE[:3]
        for kind in KINDS:
            for index in (-1, -3, 3, 100):
                printer = kind(setup)
                self.assertEqual(printer.run(code, cut=(index, HALF)), [])
                self.assertEqual(answers(printer), (((7, 2), HALF), (2, 1), (11, 2), (4, 1), (BEAM, EMPTY)))
                printer = kind(setup)
                self.assertEqual(printer.run([], cut=(index, 0)), [])
                self.assertEqual(answers(printer), (numbers(0, 0), (2, 1), (0, 1), (0, 1), (EMPTY, EMPTY)))

    def test_code_is_not_changed(self):
        code = list(self.CODE)
        for kind in KINDS:
            kind(SETUP).run(code, cut=(2, HALF), skip=True)
            self.assertEqual(code, self.CODE)


class AllTest(MachineCase):
    def test_all(self):
        for kind in KINDS:
            printer = kind(SETUP)
            self.assertIsNone(printer.do_all())
            self.assertIsNone(printer.do_all(("go", HALF, HALF), ("high", 1), ("lay", (7, 2), HALF)))
            self.assertEqual(answers(printer), (((7, 2), HALF), (1, 1), (5, 1), (4, 1), (BEAM, EMPTY)))

    def test_or_nothing(self):
        for kind in KINDS:
            printer = kind(SETUP, standing=[EMPTY, rectangle(9, 9, 10, 10)])
            printer.do_all(("go", HALF, HALF), ("high", 1), ("lay", HALF, HALF))
            before = answers(printer)
            bad = ("high", -1)
            for rows, error, values in (((("lay", 2, HALF), bad, ("lay", -9, 0)), BadRow, (bad,)),
                                        ((("lay", 2, HALF), ("lay", -9, HALF)), Hangs, ((-19, 2), (0, 1))),
                                        ((("lay", 2, 2), ("go", 9, 9)), Touch, ("foot", 2)),
                                        ((("high", 2), ("lay", 2, 2)), NoLayer, ((2, 1),))):
                values = (values,) if error is Hangs else values
                self.refuses(error, lambda: printer.do_all(*rows), *values)
                self.assertEqual(answers(printer), before)
                self.assertIs(printer.busy, False)
            printer.do(("lay", 2, HALF))
            self.assertEqual(printer.used, (5, 2))
            with self.assertRaises(Hangs):
                printer.do_all(("high", (5, 2)), ("lay", (5, 2), HALF))
            self.assertEqual((printer.tip, printer.standing[1]), ((1, 1), rectangle(9, 9, 10, 10)))


class BusyTest(unittest.TestCase):
    def test_busy_while_rows_are_done(self):
        for kind in KINDS:
            seen = []

            class Row(tuple):
                def __getitem__(self, at):
                    seen.append(printer.busy)
                    return tuple.__getitem__(self, at)

            printer = kind(SETUP)
            printer.run([Row(("go", 1, 1)), Row(("high", 99))])
            self.assertTrue(seen and all(seen))
            self.assertIs(printer.busy, False)
            seen.clear()
            printer.do_all(Row(("go", 2, 2)))
            self.assertTrue(seen and all(seen))
            seen.clear()
            with self.assertRaises(BadRow):
                printer.do_all(Row(("go", 3, 3)), Row(("high", 99)))
            self.assertTrue(seen and all(seen))
            self.assertIs(printer.busy, False)
            self.assertEqual(printer.place, numbers(2, 2))
            seen.clear()
            printer.do(Row(("go", 5, 5)))
            self.assertFalse(any(seen))

    def test_rows_go_through_do(self):
        for kind in KINDS:
            seen = []

            class Spy(kind):
                def do(self, row):
                    seen.append((row, self.busy))
                    return kind.do(self, row)

            spy = Spy(SETUP)
            spy.run([("go", 1, 1), None], skip=True)
            spy.do_all(("go", 2, 2))
            self.assertEqual(seen, [(("go", 1, 1), True), (None, True), (("go", 2, 2), True)])

    def test_not_busy_behind_any_error(self):
        for kind in KINDS:
            class Fail(kind):
                def do(self, row):
                    raise KeyError(row)

            printer = Fail(SETUP)
            for act in (lambda: printer.run([("go", 1, 1)]), lambda: printer.do_all(("go", 1, 1))):
                with self.assertRaises(KeyError):
                    act()
                self.assertIs(printer.busy, False)

    def test_all_or_nothing_behind_any_error(self):
        for kind in KINDS:
            class Fail(kind):
                def do(self, row):
                    kind.do(self, row)
                    if row[1] == 2:
                        raise KeyError(row)

            printer = Fail(SETUP)
            with self.assertRaises(KeyError):
                printer.do_all(("go", 1, 1), ("go", 2, 2))
            self.assertEqual(answers(printer), NEW)
            self.assertIs(printer.busy, False)


class LineTest(MachineCase):
    def test_lines(self):
        for kind in KINDS:
            printer = kind(SETUP)
            self.assertIsNone(printer("go 1/2 1/2\n"))
            printer(line="high 1\n")
            printer("lay 7/2 1/2\n")
            self.assertEqual(answers(printer), (((7, 2), HALF), (1, 1), (5, 1), (4, 1), (BEAM, EMPTY)))

    def test_errors_of_rows(self):
        for kind in KINDS:
            printer = kind(SETUP)
            self.refuses(BadRow, lambda: printer("high 3\n"), ("high", (3, 1)))
            self.refuses(BadRow, lambda: printer("high -1/2\n"), ("high", (-1, 2)))
            printer("high 1/2\n")
            self.refuses(NoLayer, lambda: printer("lay 1 1\n"), HALF)
            printer("high 1\n")
            self.refuses(Hangs, lambda: printer("lay 1 1\n"), ((-1, 2), (-1, 2)))

    def test_bad_lines(self):
        for kind in KINDS:
            printer = kind(SETUP)
            before = answers(printer)
            for line in WRONG_LINES:
                self.refuses(BadText, lambda: printer(line + "\n"), 0, "form")
                self.refuses(BadText, lambda: printer(line), 0, "form")
                self.refuses(BadText, lambda: printer(line + "\ngo 1 1\n"), 0, "form")
                if line:
                    self.refuses(BadText, lambda: printer("go 1 1\n" + line), 1, "form")
                self.refuses(BadText, lambda: printer("go 1 1\n" + line + "\n"), 1, "form")
            self.refuses(BadText, lambda: printer(""), 0, "form")
            self.refuses(BadText, lambda: printer("\n"), 0, "form")
            self.refuses(BadText, lambda: printer("go 1 1"), 0, "end")
            self.refuses(BadText, lambda: printer("go 1 1\ngo 2 2\n"), 1, "form")
            self.refuses(BadText, lambda: printer("go 1 1\ngo 2 2"), 1, "form")
            self.refuses(BadText, lambda: printer("go 1 1\n\n"), 1, "form")
            for value in (None, True, 7, (), [], ("go 1 1\n",), ["go 1 1\n"], ("go", 1, 1)):
                self.refuses(BadText, lambda: printer(value), 0, "form")
            self.assertEqual(answers(printer), before)


class TwinTest(unittest.TestCase):
    def test_twins(self):
        wanted = two_layers(BEAM, BEAM, carriage=(1, HALF))
        for kind in KINDS:
            printer = at(kind, wanted.setup, (HALF, HALF), 1, standing=[LEFT, EMPTY], wanted=wanted, careful=True)
            printer.do(("lay", 2, HALF))
            twin = printer.twin()
            self.assertIs(type(twin), kind)
            self.assertEqual(answers(twin), answers(printer))
            before = answers(printer)
            twin.do(("lay", (7, 2), HALF))
            self.assertEqual(answers(printer), before)
            self.assertEqual(twin.used, (3, 1))
            with self.assertRaises(Outside):
                twin.do(("lay", 5, HALF))
            twin.do(("go", 2, HALF))
            twin.do(("high", 2))
            with self.assertRaises(Loses):
                printer.twin().do_all(("high", 2), ("lay", 2, HALF))
            printer.do(("lay", 3, HALF))
            self.assertEqual((printer.used, twin.used), ((5, 2), (3, 1)))
            self.assertFalse(twin.busy)


class WordsTest(unittest.TestCase):
    def test_both_machines_do_as_the_document_says(self):
        names = {}
        for seed in range(70):
            rng = rng_of("machines", seed)
            wanted, standing = random_case(rng)
            guarded = rng.random() < 0.75
            careful = guarded and rng.random() < 0.6
            wanted_or_none = wanted if guarded else None
            slow = SlowPrinter(wanted.setup, standing, wanted_or_none, careful)
            printers = [kind(wanted.setup, standing=standing, wanted=wanted_or_none, careful=careful) for kind in KINDS]
            spots = spots_of(wanted, standing)
            rows = house_code(wanted, standing=standing)
            rows = rows[:rng.randint(0, 25)] + [random_row(rng, wanted.setup, spots) for _ in range(45)] + [("high", 99)]
            for row in rows:
                fault = slow.do(row)
                for printer in printers:
                    self.assertEqual(told(printer, row), fault)
                    self.assertEqual(answers(printer), slow.answers())
                names[fault and fault[0]] = True
        self.assertEqual(set(names), {None, "BadRow", "NoLayer", "Touch", "Hangs", "Outside", "Loses"})

    def test_the_kept_body_never_grows(self):
        for seed in range(20):
            rng = rng_of("grows", seed)
            wanted, standing = random_case(rng)
            printer = QuickPrinter(wanted.setup, standing=standing, wanted=wanted)
            roof, ahead = greatest(wanted, standing).roof, kept(wanted, standing)
            spots = spots_of(wanted, standing)
            for _ in range(4):
                printer.run([random_row(rng, wanted.setup, spots) for _ in range(25)], skip=True)
                behind = kept(wanted, printer.standing)
                self.assertTrue(all(within(p, q) for p, q in zip(behind, ahead)))
                self.assertTrue(all(within(p, q) for p, q in zip(printer.standing, roof)))
                ahead = behind


if __name__ == "__main__":
    unittest.main()
