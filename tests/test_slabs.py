import random
import unittest
from fractions import Fraction

from mostlaid.errors import BadHeights, BadMode, BadRule, NotClosed
from mostlaid.makers import loft, together
from mostlaid.measures import size
from mostlaid.nets import Net
from mostlaid.patches import dot, rectangle, segment
from mostlaid.rings import ODD, OVER, SOME, hull
from mostlaid.sets import full, joined, less, within
from mostlaid.setups import Setup, Wanted
from mostlaid.slabs import ALL, HIGH, LOW, MIDDLE, SURE, shadow, slab, wanted_of
from mostlaid.slices import slice_above, slice_below

from tests.reference import corners_around, form_faults, number, piece_patch
from tests.solids import TETRAHEDRON, box_net, fractions_of, random_solid, turned_out

SQUARE = [(0, 0), (4, 0), (4, 4), (0, 4)]
MODES = (LOW, HIGH, MIDDLE, SURE, ALL)
BAD_MODES = (None, True, 0, "", "Low", "middle ", ("low",), ["low"], (), [("sure",)])
OPENED = Net(TETRAHEDRON.corners, TETRAHEDRON.faces[1:])
FRAME = joined(segment(0, 0, 4, 0), segment(4, 0, 4, 4), segment(0, 4, 4, 4), segment(0, 0, 0, 4))


def pyramid():
    return loft(SQUARE, 0, [(2, 2)] * 4, 4)


def leaning():
    return loft(SQUARE, 0, [(x + 2, y) for x, y in SQUARE], 2)


def clipped(points, bound, sign):
    """The corners of a convex chain of points in space that is cut off at a height, up or down."""
    found = []
    for p, q in zip(points, points[1:] + points[:1]):
        here, there = sign * (p[2] - bound), sign * (q[2] - bound)
        if here >= 0:
            found.append(p)
        if here * there < 0:
            share = here / (here - there)
            found.append(tuple(x + share * (y - x) for x, y in zip(p, q)))
    return found


def slow_shadow(net, low, high):
    pieces = []
    for face in net.faces:
        points = [fractions_of(net.corners[k]) for k in face]
        if min(p[2] for p in points) < high and max(p[2] for p in points) > low:
            points = clipped(clipped(points, low, 1), high, -1)
            pieces.append(piece_patch(corners_around([(x, y) for x, y, _ in points])))
    return joined(*pieces)


class ShadowTest(unittest.TestCase):
    def test_upright_sides(self):
        box = box_net(0, 0, 0, 4, 4, 4)
        for z0, z1 in ((1, 2), (0, 4), (0, 1), (3, 4), ((1, 3), (1, 2))):
            self.assertEqual(shadow(box, z0, z1), FRAME)

    def test_level_faces(self):
        box = box_net(0, 0, 0, 4, 4, 4)
        self.assertEqual(shadow(box, -1, 0), joined())
        self.assertEqual(shadow(box, 4, 5), joined())
        for z0, z1 in ((3, (9, 2)), ((-1, 2), 1), (-1, 5)):
            self.assertEqual(shadow(box, z0, z1), rectangle(0, 0, 4, 4))

    def test_leaning_sides(self):
        got = shadow(net=leaning(), z0=0, z1=1)
        self.assertEqual(got, joined(rectangle(0, 0, 1, 4), rectangle(4, 0, 5, 4), segment(0, 0, 5, 0),
                                     segment(0, 4, 5, 4)))
        self.assertEqual(shadow(pyramid(), 0, 1),
                         less(rectangle(0, 0, 4, 4), rectangle((1, 2), (1, 2), (7, 2), (7, 2))))
        self.assertEqual(shadow(pyramid(), 0, 2), less(rectangle(0, 0, 4, 4), rectangle(1, 1, 3, 3)))
        self.assertEqual(shadow(pyramid(), 3, 4), rectangle((3, 2), (3, 2), (5, 2), (5, 2)))
        self.assertEqual(shadow(pyramid(), 4, 5), joined())

    def test_faces_without_area(self):
        corners = [(0, 0, 0), (4, 0, 4), (2, 0, 2), (1, 1, 2), (1, 1, 1), (5, 5, 1)]
        for face, wanted in [((0, 1, 1), segment(1, 0, 3, 0)), ((0, 1, 2), segment(1, 0, 3, 0)),
                             ((2, 2, 2), dot(2, 0)), ((3, 3, 4), dot(1, 1)), ((4, 4, 4), joined()),
                             ((4, 5, 4), joined()), ((0, 4, 0), joined()), ((3, 3, 3), dot(1, 1)),
                             ((0, 0, 1), segment(1, 0, 3, 0)), ((5, 3, 5), segment(5, 5, 1, 1))]:
            self.assertEqual(shadow(Net(corners, [face]), 1, 3), wanted)

    def test_open_nets(self):
        one = Net(TETRAHEDRON.corners, [(1, 2, 3)])
        self.assertEqual(shadow(one, 0, 4), hull([(4, 0), (0, 4), (0, 0)]))
        self.assertEqual(shadow(one, 1, 2), hull([(3, 0), (2, 0), (0, 2), (0, 3)]))
        self.assertEqual(shadow(one, 4, 5), joined())
        self.assertEqual(shadow(Net([], []), 0, 1), joined())
        self.assertEqual(shadow(Net([(0, 0, 0)], []), -1, 1), joined())

    def test_random_nets(self):
        for seed in range(50):
            rng = random.Random(seed)
            corners = [(rng.randint(-4, 4), rng.randint(-4, 4), rng.randint(-3, 3)) for _ in range(6)]
            net = Net(corners, [tuple(rng.randrange(6) for _ in range(3)) for _ in range(rng.randint(1, 5))])
            z0 = Fraction(rng.randint(-9, 5), rng.choice((1, 2, 3)))
            z1 = z0 + Fraction(rng.randint(1, 7), rng.choice((1, 2, 3)))
            got = shadow(net, number(z0), number(z1))
            self.assertEqual(form_faults(got), [])
            self.assertEqual(got, slow_shadow(net, z0, z1))


class SlabTest(unittest.TestCase):
    def all_modes(self, net, z0, z1, **more):
        return [slab(net, z0, z1, mode=mode, **more) for mode in MODES]

    def test_constants(self):
        self.assertEqual(MODES, ("low", "high", "middle", "sure", "all"))

    def test_straight_solids(self):
        p = rectangle(0, 0, 4, 4)
        self.assertEqual(self.all_modes(box_net(0, 0, 0, 4, 4, 4), 1, 2), [p] * 5)
        self.assertEqual(self.all_modes(box_net(0, 0, 0, 4, 4, 4), 0, 4), [p] * 5)
        low = box_net(0, 0, 0, 4, 4, 1)
        self.assertEqual(self.all_modes(low, 0, 2), [p, joined(), joined(), joined(), p])
        self.assertEqual(self.all_modes(low, 0, (3, 2)), [p, joined(), p, joined(), p])
        high = box_net(0, 0, 1, 4, 4, 3)
        self.assertEqual(self.all_modes(high, 0, 2), [joined(), p, p, joined(), p])
        self.assertEqual(self.all_modes(high, 3, 4), [joined()] * 5)
        self.assertEqual(self.all_modes(high, 0, 1), [joined()] * 5)

    def test_leaning_solids(self):
        self.assertEqual(self.all_modes(leaning(), 0, 2),
                         [rectangle(0, 0, 4, 4), rectangle(2, 0, 6, 4), rectangle(1, 0, 5, 4), rectangle(2, 0, 4, 4),
                          rectangle(0, 0, 6, 4)])

    def test_pointed_solids(self):
        sizes = [[size(p) for p in self.all_modes(pyramid(), z, z + 1)] for z in (0, 3, 4)]
        self.assertEqual(sizes[0], [(16, 1), (9, 1), (49, 4), (9, 1), (16, 1)])
        self.assertEqual(sizes[1], [(1, 1), (0, 1), (1, 4), (0, 1), (1, 1)])
        self.assertEqual(sizes[2], [(0, 1)] * 5)
        self.assertEqual(self.all_modes(pyramid(), 0, 8)[1:], [joined(), joined(), joined(), rectangle(0, 0, 4, 4)])

    def test_solids_turned_inside_out(self):
        net = turned_out(pyramid())
        for rule in (SOME, ODD):
            self.assertEqual(self.all_modes(net, 0, 1, rule=rule), self.all_modes(pyramid(), 0, 1))
        ring = slow_shadow(pyramid(), 0, 1)
        self.assertEqual(self.all_modes(net, 0, 1, rule=OVER), [joined(), joined(), joined(), joined(), ring])

    def test_rules(self):
        net = together(box_net(0, 0, 0, 4, 4, 2), box_net(2, 0, 0, 6, 4, 2))
        odd = joined(rectangle(0, 0, 2, 4), rectangle(4, 0, 6, 4))
        self.assertEqual(self.all_modes(net, 0, 1, rule=ODD), [odd] * 5)
        self.assertEqual(self.all_modes(net, 0, 1, rule=SOME), [rectangle(0, 0, 6, 4)] * 5)

    def test_by_default_and_by_name(self):
        self.assertEqual(slab(pyramid(), 0, 1), rectangle(0, 0, 4, 4))
        self.assertEqual(slab(net=pyramid(), z0=1, z1=2), slice_above(pyramid(), 1))
        self.assertEqual(slab(net=pyramid(), z0=1, z1=2, rule=OVER, mode=HIGH), slice_below(pyramid(), 2))
        with self.assertRaises(TypeError):
            slab(pyramid(), 0, 1, LOW)

    def test_the_definitions_and_the_fact(self):
        for seed in range(25):
            rng = random.Random(seed)
            net = random_solid(rng)
            z0 = Fraction(rng.randint(-9, 5), 2)
            z1 = z0 + Fraction(rng.randint(1, 4), 2)
            rule = rng.choice((SOME, OVER, ODD))
            low, high, middle, sure, whole = self.all_modes(net, number(z0), number(z1), rule=rule)
            self.assertEqual(low, slice_above(net, number(z0), rule=rule))
            self.assertEqual(high, slice_below(net, number(z1), rule=rule))
            self.assertEqual(middle, slice_above(net, number((z0 + z1) / 2), rule=rule))
            shade = slow_shadow(net, z0, z1)
            self.assertEqual(sure, full(less(low, shade)))
            self.assertEqual(whole, full(joined(low, shade)))
            for share in (Fraction(1, 99), Fraction(1, 3), Fraction(1, 2), Fraction(98, 99)):
                between = slice_above(net, number(z0 + share * (z1 - z0)), rule=rule)
                self.assertTrue(within(sure, between))
                self.assertTrue(within(between, whole))
            for end in (low, high):
                self.assertTrue(within(sure, end) and within(end, whole))
            for p in (low, high, middle, sure, whole):
                self.assertEqual(full(p), p)


class RefusalsTest(unittest.TestCase):
    def raises(self, kind, name, value, *args, **more):
        with self.assertRaises(kind) as held:
            slab(*args, **more)
        if name:
            self.assertEqual(getattr(held.exception, name), value)

    def test_each_error(self):
        for rule in BAD_MODES:
            self.raises(BadRule, "rule", rule, TETRAHEDRON, 0, 1, rule=rule)
        for mode in BAD_MODES:
            self.raises(BadMode, "mode", mode, TETRAHEDRON, 0, 1, mode=mode)
        for z0, z1 in ((1, 1), (2, 1), ((1, 2), (1, 3)), (0, (-1, 12)), ((1, 1), 1)):
            for mode in MODES:
                self.raises(BadHeights, None, None, TETRAHEDRON, z0, z1, mode=mode)
        for mode in MODES:
            for z0, z1 in ((0, 1), (-9, -8), (100, 101)):
                self.raises(NotClosed, "edges", [(0, 1, 1), (0, 2, -1), (1, 2, 1)], OPENED, z0, z1, mode=mode)
        slab(TETRAHEDRON, (1, 3), (1, 2))

    def test_the_sequence(self):
        self.raises(BadRule, "rule", "r", OPENED, 2, 1, rule="r", mode="m")
        self.raises(BadMode, "mode", "m", OPENED, 2, 1, mode="m")
        self.raises(BadHeights, None, None, OPENED, 2, 1)
        self.raises(NotClosed, "edges", [(0, 1, 1), (0, 2, -1), (1, 2, 1)], OPENED, 1, 2)
        for mode in ("some", "over", "odd"):
            self.raises(BadMode, "mode", mode, TETRAHEDRON, 0, 1, mode=mode)
        for rule in MODES:
            self.raises(BadRule, "rule", rule, TETRAHEDRON, 0, 1, rule=rule)

    def test_wanted_of_raises_as_slab(self):
        setup = Setup([0, 1, 2], (0, 0, 9, 9))
        for kind, more in ((BadRule, {"rule": None, "mode": None}), (BadMode, {"mode": []})):
            with self.assertRaises(kind):
                wanted_of(setup, OPENED, **more)
        with self.assertRaises(NotClosed) as held:
            wanted_of(setup, OPENED)
        self.assertEqual(held.exception.edges, [(0, 1, 1), (0, 2, -1), (1, 2, 1)])


class WantedOfTest(unittest.TestCase):
    def test_all_layers(self):
        setup = Setup([0, (1, 2), 2, 3, 5], (0, 0, 9, 9))
        wanted = wanted_of(setup, pyramid())
        self.assertIsInstance(wanted, Wanted)
        self.assertEqual(wanted.setup, setup)
        self.assertEqual([size(p) for p in wanted.slices], [(16, 1), (49, 4), (4, 1), (1, 1)])
        for mode in MODES:
            for rule in (SOME, OVER, ODD):
                got = wanted_of(setup=setup, net=turned_out(pyramid()), mode=mode, rule=rule)
                wished = [slab(turned_out(pyramid()), low, high, mode=mode, rule=rule)
                          for low, high in zip(setup.heights, setup.heights[1:])]
                self.assertEqual(list(got.slices), wished)
        with self.assertRaises(TypeError):
            wanted_of(setup, pyramid(), LOW)


if __name__ == "__main__":
    unittest.main()
