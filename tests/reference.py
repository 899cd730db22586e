"""A slow model of closed sets of the plane, to compare patches with.

A set is a function of a point (x, y) of Fractions. Closures and insides are found by looking in
all directions that matter, at distances far below all distances that occur in the tests.
"""

from fractions import Fraction
from functools import cmp_to_key

from mostlaid.patches import dot, segment
from mostlaid.rings import hull
from mostlaid.sets import joined

NEAR = Fraction(1, 10 ** 14)
NEARER = Fraction(1, 10 ** 24)
NEAREST = Fraction(1, 10 ** 34)


def fraction(a):
    return Fraction(a) if isinstance(a, int) else Fraction(a[0], a[1])


def number(a):
    a = Fraction(a)
    return (a.numerator, a.denominator)


def numbers(*values):
    return tuple(number(a) for a in values)


def has(p, z):
    return p.has(number(z[0]), number(z[1]))


def has_inside(p, z):
    return p.has_inside(number(z[0]), number(z[1]))


def cross(o, a, b):
    return (a[0] - o[0]) * (b[1] - o[1]) - (a[1] - o[1]) * (b[0] - o[0])


def corners_around(points):
    """The corners of the convex cover of points, counterclockwise."""
    points = sorted(set(points))
    if len(points) < 3:
        return points
    chains = []
    for run in (points, points[::-1]):
        chain = []
        for point in run:
            while len(chain) > 1 and cross(chain[-2], chain[-1], point) <= 0:
                chain.pop()
            chain.append(point)
        chains.append(chain[:-1])
    return chains[0] + chains[1]


def in_convex(corners, z):
    """Whether z is in the convex cover with these corners, as from corners_around."""
    if len(corners) == 1:
        return corners[0] == z
    if len(corners) == 2:
        a, b = corners
        if cross(a, b, z) != 0:
            return False
        return min(a[0], b[0]) <= z[0] <= max(a[0], b[0]) and min(a[1], b[1]) <= z[1] <= max(a[1], b[1])
    return all(cross(corners[k - 1], corners[k], z) >= 0 for k in range(len(corners)))


class Shapes:
    """A union of convex pieces, each given by its points, with its patch."""

    def __init__(self, pieces):
        self.pieces = [corners_around([(Fraction(x), Fraction(y)) for x, y in piece]) for piece in pieces]
        self.patch = joined(*[piece_patch(piece) for piece in self.pieces])

    def has(self, z):
        return any(in_convex(corners, z) for corners in self.pieces)

    def sides(self):
        found = []
        for corners in self.pieces:
            found.extend((corners[k - 1], corners[k]) for k in range(len(corners)))
        return found


def piece_patch(corners):
    points = [numbers(*corner) for corner in corners]
    if len(points) == 1:
        return dot(*points[0])
    if len(points) == 2:
        return segment(*points[0], *points[1])
    return hull(points)


def directions_of(sides):
    """All directions of sides, both ways, and one between each two neighbours."""
    found = {}
    for (ax, ay), (bx, by) in sides + [((0, 0), (1, 0)), ((0, 0), (0, 1))]:
        if (ax, ay) != (bx, by):
            scale = max(abs(bx - ax), abs(by - ay))
            x, y = Fraction(bx - ax) / scale, Fraction(by - ay) / scale
            found[(x, y)] = True
            found[(-x, -y)] = True
    ordered = sorted(found, key=cmp_to_key(turn_order))
    between = []
    for k, (x, y) in enumerate(ordered):
        u, v = ordered[k - 1]
        between.append((x + u, y + v))
    return ordered + between


def half(d):
    return 0 if d[1] > 0 or (d[1] == 0 and d[0] > 0) else 1


def turn_order(a, b):
    if half(a) != half(b):
        return half(a) - half(b)
    turn = a[0] * b[1] - a[1] * b[0]
    return -1 if turn > 0 else (1 if turn < 0 else 0)


def near(z, ways, distance):
    return [(z[0] + distance * x, z[1] + distance * y) for x, y in ways]


def closure(test, ways):
    return lambda z: test(z) or any(test(w) for w in near(z, ways, NEARER))


def inside(test, ways):
    return lambda z: test(z) and all(test(w) for w in near(z, ways, NEAREST))


def vertices_of(sides):
    """The ends of sides and the points in which two of them meet."""
    found = {}
    for a, b in sides:
        found[a] = found[b] = True
    for k, (a, b) in enumerate(sides):
        for c, d in sides[:k]:
            turn = (b[0] - a[0]) * (d[1] - c[1]) - (b[1] - a[1]) * (d[0] - c[0])
            if turn != 0:
                s = ((c[0] - a[0]) * (d[1] - c[1]) - (c[1] - a[1]) * (d[0] - c[0])) / turn
                t = ((c[0] - a[0]) * (b[1] - a[1]) - (c[1] - a[1]) * (b[0] - a[0])) / turn
                if 0 <= s <= 1 and 0 <= t <= 1:
                    found[(a[0] + s * (b[0] - a[0]), a[1] + s * (b[1] - a[1]))] = True
    return list(found)


def samples(sides, ways):
    """A point of each vertex, side and area into which sides divide the plane."""
    found = []
    for vertex in vertices_of(sides):
        found.append(vertex)
        found.extend(near(vertex, ways, NEAR))
    return found


def own_samples(p):
    """Points in the cells of a patch: all ends, and middles."""
    found = []
    for y, row in zip(p.levels, p.rows):
        for a, b in row:
            a, b, h = fraction(a), fraction(b), fraction(y)
            found.extend([(a, h), ((a + b) / 2, h), (b, h)])
    for y0, y1, strip in p.strips():
        a, b, c, d = [fraction(x) for x in strip]
        h = (fraction(y0) + fraction(y1)) / 2
        found.extend([((a + c) / 2, h), ((a + b + c + d) / 4, h), ((b + d) / 2, h)])
    return found


def area_of(p):
    total = Fraction(0)
    for y0, y1, strip in p.strips():
        a, b, c, d = [fraction(x) for x in strip]
        total += (b - a + d - c) * (fraction(y1) - fraction(y0)) / 2
    return total


def line_goes_on(p0, p1, p2):
    return cross(p0, p1, p2) == 0


def form_faults(p):
    """What is wrong with the form of a patch; an empty list if it is the one form of its set."""
    faults = []
    if not isinstance(p.levels, tuple) or not isinstance(p.rows, tuple) or not isinstance(p.bands, tuple):
        return ["kinds"]
    if len(p.rows) != len(p.levels) or len(p.bands) != max(0, len(p.levels) - 1):
        return ["counts"]
    for value in every_number(p):
        if fraction(value).as_integer_ratio() != value:
            faults.append(("number", value))
    levels = [fraction(y) for y in p.levels]
    if levels != sorted(set(levels)):
        faults.append("levels")
    for row in p.rows:
        ends = [fraction(x) for stretch in row for x in stretch]
        if not row or ends != sorted(ends) or any(ends[k] == ends[k + 1] for k in range(1, len(ends) - 1, 2)):
            faults.append(("row", row))
    for k, band in enumerate(p.bands):
        faults.extend(band_faults(band, p.rows[k], p.rows[k + 1]))
    for k in range(len(levels)):
        if not needs_level(p, levels, k):
            faults.append(("level", p.levels[k]))
    return faults


def every_number(p):
    found = list(p.levels)
    for spans in p.rows + p.bands:
        for span in spans:
            found.extend(span)
    return found


def band_faults(band, lower, upper):
    faults = []
    sides = []
    for a, b, c, d in [[fraction(x) for x in strip] for strip in band]:
        sides.extend([(a, c), (b, d)])
        for row, low, high in ((lower, a, b), (upper, c, d)):
            if not any(fraction(e) <= low and high <= fraction(f) for e, f in row):
                faults.append(("end", band))
    for k in range(len(sides) - 1):
        one, other = sides[k], sides[k + 1]
        if one[0] > other[0] or one[1] > other[1] or (k % 2 == 1 and one == other):
            faults.append(("band", band))
    return faults


def needs_level(p, levels, k):
    """Whether a patch does not run straight through its level k."""
    if k == 0 or k + 1 == len(levels):
        return True
    under, above = p.bands[k - 1], p.bands[k]
    row = tuple((strip[2], strip[3]) for strip in under)
    if row != p.rows[k] or row != tuple((strip[0], strip[1]) for strip in above):
        return True
    for one, other in zip(under, above):
        for side in (0, 1):
            three = [(fraction(x), y) for x, y in zip((one[side], one[side + 2], other[side + 2]), levels[k - 1:k + 2])]
            if not line_goes_on(*three):
                return True
    return False
