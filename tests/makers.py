"""Sets of the plane for the tests, made from a fixed seed."""

from fractions import Fraction

from tests.reference import Shapes


def random_point(rng, most=6, denominators=(1, 1, 2)):
    d = rng.choice(denominators)
    return (Fraction(rng.randint(-most * d, most * d), d), Fraction(rng.randint(-most * d, most * d), d))


def random_piece(rng):
    kind = rng.choice(("area", "area", "box", "segment", "level", "upright", "dot"))
    first = random_point(rng)
    if kind == "area":
        return [random_point(rng) for _ in range(rng.randint(3, 5))]
    if kind == "box":
        w, h = rng.randint(1, 5), rng.randint(1, 5)
        return [first, (first[0] + w, first[1]), (first[0], first[1] + h), (first[0] + w, first[1] + h)]
    if kind == "segment":
        return [first, random_point(rng)]
    if kind == "level":
        return [first, (first[0] + rng.randint(1, 6), first[1])]
    if kind == "upright":
        return [first, (first[0], first[1] + rng.randint(1, 6))]
    return [first]


def random_shapes(rng, most=4):
    return Shapes([random_piece(rng) for _ in range(rng.randint(1, most))])
