"""Wanted bodies and standings for the tests."""

from fractions import Fraction

from mostlaid.patches import dot, rectangle, segment
from mostlaid.ratios import minus, plus
from mostlaid.sets import joined
from mostlaid.setups import Setup, Wanted

from tests.reference import numbers

HALF = (1, 2)
BED = (0, 0, 20, 20)
SQUARE = rectangle(0, 0, 2, 2)
LEFT, RIGHT = rectangle(0, 0, 1, 1), rectangle(2, 0, 3, 1)
POSTS = joined(LEFT, RIGHT)
EMPTY = joined()
BEAM_RASTER = [(HALF, HALF), ((3, 2), HALF), ((5, 2), HALF), ((7, 2), HALF)]
WRONG_STANDINGS = [(True, 0), (False, 0), (0, 0), (7, 0), ("", 0), ("ab", 0), ([], 0), ((), 0), ([SQUARE], 0),
                   ((SQUARE,) * 3, 0), (SQUARE, 0), ([None, SQUARE], 1), ([SQUARE, None], 2), ([dot(0, 0), SQUARE], 1),
                   ((SQUARE, segment(0, 0, 1, 1)), 2), ([SQUARE, joined(SQUARE, dot(9, 9))], 2), ([0, "x"], 1),
                   ([[SQUARE], SQUARE], 1), ([SQUARE, (SQUARE,)], 2)]


def one_layer(p, **more):
    return Wanted(Setup([0, 1], BED, **more), [p])


def two_layers(low, high, **more):
    return Wanted(Setup([0, 1, 2], BED, **more), [low, high])


def foot_at(setup, x, y, halves=None):
    h, v = halves or setup.foot
    return rectangle(minus(x, h), minus(y, v), plus(x, h), plus(y, v))


def random_grid_patch(rng, most=3):
    pieces = []
    for _ in range(rng.randint(0, most)):
        x, y = rng.randint(0, 10), rng.randint(0, 10)
        w, h = rng.randint(1, 5), rng.randint(1, 5)
        pieces.append(rectangle(*numbers(half(x), half(y), half(x + w), half(y + h))))
    return joined(*pieces)


def half(k):
    return Fraction(k, 2)


def random_grid_case(rng, layers, points):
    """A wanted body and a standing with all corners at multiples of 1/2."""
    heights = [0, HALF, (3, 2), 2][:layers + 1]
    foot = rng.choice([(HALF, HALF), (HALF, 1), (1, HALF)])
    carriage = rng.choice([None, (1, 1), (2, 1), (1, (3, 2))])
    raster = [numbers(half(rng.randint(0, 12)), half(rng.randint(0, 12))) for _ in range(points)]
    bed = (rng.choice((0, (-1, 2), (-3, 2))), rng.choice((0, 1, HALF)), 6, rng.choice((6, (11, 2))))
    setup = Setup(heights, bed, foot=foot, carriage=carriage,
                  gap=rng.choice([0, HALF, 1, 2]), reach=rng.choice([(0, 0), (HALF, 0), (1, HALF)]), raster=raster)
    slices = [random_grid_patch(rng, 4) for _ in range(layers)]
    if rng.random() < 0.5:
        slices = [joined(p, slices[0]) for p in slices]
    standing = [random_grid_patch(rng, 3) if rng.random() < 0.7 else EMPTY for _ in range(layers)]
    return Wanted(setup, slices), standing
