"""The main fact: the code of a making is refused nowhere, and leaves the greatest body, however it is cut."""

import unittest
from fractions import Fraction

from mostlaid.fillings import row_strokes
from mostlaid.greatest import greatest, kept
from mostlaid.jobs import Plan
from mostlaid.makings import Making, house_code
from mostlaid.printers import Printer
from mostlaid.props import props
from mostlaid.quick import QuickPrinter
from mostlaid.sets import common, full, joined

from tests.bodies import foot_at, random_grid_case
from tests.reference import number
from tests.slow import FILLINGS, random_case, random_chooser, random_leaning_case, rng_of

KINDS = (Printer, QuickPrinter)


def random_share(rng):
    d = rng.choice((1, 2, 3, 4))
    return number(Fraction(rng.randint(0, d), d))


def roof_of(wanted, standing):
    """The greatest body and the rectangles at the props."""
    best, found = greatest(wanted, standing), props(wanted, standing)
    return tuple(joined(body, *[foot_at(wanted.setup, *point) for point in points])
                 for body, points in zip(best.body, found))


def within_slices(wanted, standing):
    return tuple(full(common(stuff, part)) for stuff, part in zip(standing, wanted.slices))


def random_work(rng, light=False):
    """How a making works, by keywords."""
    return {"chooser": random_chooser(rng), "filling": rng.choice(FILLINGS[:4] if light else FILLINGS),
            "walk": rng.random() < 0.5}


def corners_of(p):
    """The ends of all stretches of a patch on its levels."""
    return [(x, y) for y, row in zip(p.levels, p.rows) for stretch in row for x in stretch]


class MainFactTest(unittest.TestCase):
    def check_whole(self, rng, wanted, standing):
        """No machine refuses a row, and the body and the props stand at the end."""
        code = house_code(wanted, standing=standing, **random_work(rng))
        roof = roof_of(wanted, standing)
        for kind in KINDS:
            for careful in (False, True):
                printer = kind(wanted.setup, standing=standing, wanted=wanted, careful=careful)
                self.assertEqual(printer.run(code), [])
                self.assertEqual(printer.standing, roof)
        self.assertEqual(kept(wanted, roof), kept(wanted, standing))
        self.assertEqual(Plan(wanted, roof).jobs, ())
        return code

    def check_cut(self, rng, wanted, standing, code, index, share):
        """A cut loses nothing, and a new making from there does the rest."""
        wished = kept(wanted, standing)
        printer = rng.choice(KINDS)(wanted.setup, standing=standing, wanted=wanted, careful=rng.random() < 0.5)
        self.assertEqual(printer.run(code, cut=(index, share)), [])
        self.assertEqual(kept(wanted, printer.standing), wished)
        self.finish(rng, wanted, printer, wished)

    def finish(self, rng, wanted, printer, wished):
        rest = Making(wanted, standing=printer.standing, place=printer.place, tip=printer.tip, **random_work(rng, True))
        self.assertEqual(printer.run(rest.code()), [])
        self.assertEqual(printer.standing, rest.plan.stands(list(range(len(rest.plan.jobs)))))
        self.assertEqual(within_slices(wanted, printer.standing), wished)
        self.assertEqual(Plan(wanted, printer.standing).jobs, ())

    def test_straight_worlds(self):
        rows = 0
        for seed in range(70):
            rng = rng_of("straight", seed)
            wanted, standing = random_grid_case(rng, rng.randint(1, 3), rng.choice((0, 6, 15)))
            standing = None if rng.random() < 0.25 else standing
            code = self.check_whole(rng, wanted, standing)
            for _ in range(3 if code else 0):
                self.check_cut(rng, wanted, standing, code, rng.randrange(len(code)), random_share(rng))
            rows += len(code)
        self.assertGreater(rows, 300)

    def test_leaning_worlds(self):
        rows = 0
        for seed in range(40):
            rng = rng_of("leaning", seed)
            wanted, standing = random_leaning_case(rng, rng.randint(1, 3))
            code = self.check_whole(rng, wanted, standing)
            if code:
                self.check_cut(rng, wanted, standing, code, rng.randrange(len(code)), random_share(rng))
            rows += len(code)
        self.assertGreater(rows, 1000)

    def test_cuts_at_every_row(self):
        worlds, seed = 0, 0
        while worlds < 12:
            seed += 1
            rng = rng_of("every row", seed)
            wanted, standing = random_case(rng)
            code = house_code(wanted, standing=standing, **random_work(rng, True))
            if 8 <= len(code) <= 30:
                worlds += 1
                for index in range(len(code)):
                    self.check_cut(rng, wanted, standing, code, index, random_share(rng))

    def test_cuts_once_and_again(self):
        for seed in range(25):
            rng = rng_of("again", seed)
            wanted, standing = random_case(rng)
            wished = kept(wanted, standing)
            printer = rng.choice(KINDS)(wanted.setup, standing=standing, wanted=wanted, careful=True)
            for _ in range(rng.randint(2, 4)):
                work = Making(wanted, standing=printer.standing, place=printer.place, tip=printer.tip, **random_work(rng, True))
                code = work.code()
                if code:
                    cut = (rng.randrange(len(code)), random_share(rng))
                    self.assertEqual(printer.run(code, cut=cut), [])
                    self.assertEqual(kept(wanted, printer.standing), wished)
                    self.assertEqual(printer.tip, wanted.setup.heights[-1])
            self.finish(rng, wanted, printer, wished)

    def test_going_up_layer_by_layer(self):
        props_laid = 0
        for seed in range(40):
            rng = rng_of("going up", seed)
            wanted, standing = random_case(rng)
            best = greatest(wanted, standing)
            printer = QuickPrinter(wanted.setup, standing=standing, wanted=wanted)
            top = wanted.setup.heights[-1]
            for height, places, points in zip(wanted.setup.heights[1:], best.places, best.prop_places):
                for x, y in corners_of(places) + list(points):
                    self.assertEqual(printer.run([("high", top), ("go", x, y), ("high", height), ("lay", x, y)]), [])
                # The rest of the layer: all strokes of its places.
                for x0, y0, x1, y1 in row_strokes(places, *wanted.setup.foot):
                    rows = [("high", top), ("go", x0, y0), ("high", height), ("lay", x1, y1)]
                    self.assertEqual(printer.run(rows), [])
                props_laid += len(points)
            self.assertEqual(printer.standing, best.roof)
        self.assertGreater(props_laid, 20)

    def test_making_goes_on_where_it_is(self):
        for seed in range(15):
            rng = rng_of("goes on", seed)
            wanted, standing = random_case(rng)
            making = Making(wanted, standing=standing, **random_work(rng))
            printer = QuickPrinter(wanted.setup, standing=standing, wanted=wanted, careful=True)
            while making.ready():
                self.assertEqual(printer.run(making.lay(rng.choice(making.ready()))), [])
                self.assertEqual((printer.place, printer.tip, printer.standing), (making.place, making.tip, making.standing))
            self.assertEqual(printer.standing, roof_of(wanted, standing))


if __name__ == "__main__":
    unittest.main()
