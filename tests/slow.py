"""A slow printer that follows the words of the document row by row, and what else several tests of code need."""

import random
from fractions import Fraction

from mostlaid.feet import grown
from mostlaid.fillings import laid, strokes_of
from mostlaid.greatest import kept
from mostlaid.makings import Making
from mostlaid.measures import first_point, size
from mostlaid.patches import rectangle
from mostlaid.quick import QuickPrinter
from mostlaid.sets import full, insides_meet, joined, less, within
from mostlaid.setups import Setup, checked_standing
from mostlaid.slabs import ALL, HIGH, LOW, MIDDLE, SURE, wanted_of

from tests.bodies import HALF, foot_at, half, random_grid_case
from tests.makers import random_shapes
from tests.reference import fraction, number, numbers
from tests.solids import random_solid

FILLINGS = ("rows", "columns", "rings", "tree", "spare", ("walls", 0), ("walls", 1), ("walls", 2), ("walls", 20))
MODES = (LOW, HIGH, MIDDLE, SURE, ALL)


class SlowPrinter:
    """Keeps Fractions, and answers a row by None or by a tuple with the name of the error and its values."""

    def __init__(self, setup, standing=None, wanted=None, careful=False):
        self.setup, self.wanted, self.careful = setup, wanted, careful
        self.begun = checked_standing(setup, standing)
        self.standing = self.begun
        self.heights = [fraction(z) for z in setup.heights]
        self.place, self.tip, self.clock = (Fraction(0), Fraction(0)), self.heights[-1], Fraction(0)

    def used(self):
        return sum((self.heights[k + 1] - self.heights[k]) * (fraction(size(now)) - fraction(size(then)))
                   for k, (now, then) in enumerate(zip(self.standing, self.begun)))

    def is_row(self, row):
        if not isinstance(row, tuple) or not row or row[0] not in ("high", "go", "lay"):
            return False
        if len(row) != (2 if row[0] == "high" else 3) or not all(is_lowest(value) for value in row[1:]):
            return False
        return row[0] != "high" or 0 <= fraction(row[1]) <= self.heights[-1]

    def touch(self, spot, tip):
        stroke = [numbers(*self.place) + numbers(*spot)]
        for part, halves, low in (("foot", self.setup.foot, tip),
                                  ("carriage", self.setup.carriage, tip + fraction(self.setup.gap))):
            swept = laid(stroke, *halves)
            for layer in range(1, len(self.heights)):
                if self.heights[layer] > low and insides_meet(swept, self.standing[layer - 1]):
                    return ("Touch", part, layer)
        return None

    def rest(self, layer):
        if layer == 1:
            return rectangle(*self.setup.bed)
        return grown(self.standing[layer - 2], *self.setup.reach)

    def is_prop(self, spot, layer):
        foot = foot_at(self.setup, *numbers(*spot))
        return (spot == self.place and numbers(*spot) in self.setup.raster
                and not insides_meet(foot, self.wanted.slices[layer - 1]))

    def fault_of_lay(self, spot, layer, swept, behind):
        hanging = less(swept, self.rest(layer))
        if hanging:
            return ("Hangs", first_point(hanging))
        if self.wanted is None:
            return None
        part = self.wanted.slices[layer - 1]
        if not within(swept, part) and not self.is_prop(spot, layer):
            return ("Outside", first_point(less(swept, part)))
        if self.careful:
            for at, (old, new) in enumerate(zip(kept(self.wanted, self.standing), kept(self.wanted, behind))):
                if less(old, new):
                    return ("Loses", at + 1)
        return None

    def do(self, row):
        if not self.is_row(row):
            return ("BadRow", row)
        if row[0] == "high":
            tip = fraction(row[1])
            fault = self.touch(self.place, min(tip, self.tip))
            if fault is None:
                self.clock += abs(tip - self.tip)
                self.tip = tip
            return fault
        layer = self.heights.index(self.tip) if self.tip in self.heights[1:] else None
        if row[0] == "lay" and layer is None:
            return ("NoLayer", number(self.tip))
        spot = (fraction(row[1]), fraction(row[2]))
        fault = self.touch(spot, self.tip)
        behind = self.standing
        if fault is None and row[0] == "lay":
            swept = laid([numbers(*self.place) + numbers(*spot)], *self.setup.foot)
            behind = tuple(joined(stuff, swept) if at + 1 == layer else stuff for at, stuff in enumerate(behind))
            fault = self.fault_of_lay(spot, layer, swept, behind)
        if fault is None:
            self.clock += max(abs(spot[0] - self.place[0]), abs(spot[1] - self.place[1]))
            self.place, self.standing = spot, behind
        return fault

    def answers(self):
        return (numbers(*self.place), number(self.tip), number(self.clock), number(self.used()), self.standing)


def is_lowest(value):
    if isinstance(value, bool):
        return False
    if isinstance(value, int):
        return True
    if not isinstance(value, tuple) or len(value) != 2 or not all(type(item) is int for item in value):
        return False
    return value[1] > 0 and Fraction(*value).as_integer_ratio() == value


def answers(printer):
    return (printer.place, printer.tip, printer.clock, printer.used, printer.standing)


def told(printer, row):
    """What a printer answers to a row, as the slow one does."""
    try:
        printer.do(row)
    except ValueError as error:
        return (type(error).__name__,) + tuple(vars(error).values())
    return None


def random_chooser(rng):
    return rng.choice(["layers", "towers", "near", [rng.randint(0, 99) for _ in range(rng.randint(0, 4))]])


def random_row(rng, setup, spots):
    """A row, most often to one of some spots."""
    word = rng.choice(("high", "go", "go", "lay", "lay", "lay"))
    if word == "high":
        return (word, rng.choice(setup.heights + (number(Fraction(rng.randint(0, 8), 4)),)))
    if spots and rng.random() < 0.8:
        return (word,) + rng.choice(spots)
    return (word,) + numbers(half(rng.randint(-4, 16)), half(rng.randint(-4, 16)))


def random_leaning_case(rng, layers):
    """A wanted body from a net and a standing: nothing, loose stuff, or what a stranger has left."""
    heights = rng.choice([[0, 1, 2, 3], [0, HALF, (3, 2), 2]])[:layers + 1]
    raster = [(rng.randint(-5, 6), rng.randint(-5, 6)) for _ in range(rng.choice((0, 10, 20)))]
    setup = Setup(heights, (-6, -6, 7, 7), foot=rng.choice([(HALF, HALF), (HALF, 1), (1, HALF)]),
                  carriage=rng.choice([None, (1, 1), (2, (3, 2))]), gap=rng.choice((0, HALF, 1)),
                  reach=rng.choice([(0, 0), (HALF, 0), (1, 1)]), raster=raster)
    wanted = wanted_of(setup, random_solid(rng), mode=rng.choice(MODES))
    kind = rng.randint(0, 2)
    if kind == 0:
        return wanted, None
    if kind == 1:
        return wanted, [full(random_shapes(rng, 2).patch) if rng.random() < 0.5 else joined() for _ in range(layers)]
    stranger = QuickPrinter(setup)
    stranger.run([random_row(rng, setup, []) for _ in range(60)], skip=True)
    return wanted, stranger.standing


def random_case(rng):
    """A straight or a leaning world."""
    if rng.random() < 0.6:
        wanted, standing = random_grid_case(rng, rng.randint(1, 3), rng.choice((0, 6, 15)))
        return wanted, (None if rng.random() < 0.3 else standing)
    return random_leaning_case(rng, rng.randint(1, 3))


def spots_of(wanted, standing):
    """Places at which a printer can do something: the ends of the strokes of all jobs."""
    plan = Making(wanted, standing=standing).plan
    found = []
    for job in plan.jobs:
        for x0, y0, x1, y1 in strokes_of(job.places, *wanted.setup.foot, "rows"):
            found.extend([(x0, y0), (x1, y1)])
    return found + list(wanted.setup.raster)


def rng_of(*seeds):
    return random.Random(repr(seeds))
