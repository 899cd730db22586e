import random
import unittest
from fractions import Fraction

from mostlaid.errors import BadRule, NotClosed
from mostlaid.makers import loft, together
from mostlaid.measures import moved, size
from mostlaid.nets import Net
from mostlaid.patches import rectangle
from mostlaid.rings import ODD, OVER, SOME, hull, of_rings
from mostlaid.sets import common, full, joined, less
from mostlaid.slices import slice_above, slice_below

from tests.reference import form_faults, fraction, has, number, own_samples
from tests.solids import TETRAHEDRON, box_net, fractions_of, random_solid, turned_out

SQUARE = [(0, 0), (4, 0), (4, 4), (0, 4)]
RULES = {SOME: lambda w: w != 0, OVER: lambda w: w > 0, ODD: lambda w: w % 2 != 0}
BAD_RULES = (None, True, 0, 1, "", "Some", "any", "some ", ("some",), ["some"], (), [("odd",)])
HAIR = Fraction(1, 10 ** 30)


def pyramid():
    return loft(SQUARE, 0, [(2, 2)] * 4, 4)


def winding(net, x, y, z):
    """The winding number of a net around a point that lies on no face, by a ray in a slanting direction.

    Each face that the ray meets counts 1 if the ray goes out there, and -1 if it goes in.
    """
    ray = (Fraction(1), Fraction(1, 7919), Fraction(1, 104729))
    total = 0
    for face in net.faces:
        p, q, r = [fractions_of(net.corners[k]) for k in face]
        u, v = minus(q, p), minus(r, p)
        normal = cross(u, v)
        slope = dot(normal, ray)
        if slope == 0:
            continue
        share = dot(normal, minus(p, (x, y, z))) / slope
        if share <= 0:
            continue
        hit = (x + share * ray[0], y + share * ray[1], z + share * ray[2])
        turns = [dot(normal, cross(minus(b, a), minus(hit, a))) for a, b in ((p, q), (q, r), (r, p))]
        assert 0 not in turns, "choose another point"
        if all(turn > 0 for turn in turns):
            total += 1 if slope > 0 else -1
    return total


def minus(a, b):
    return tuple(x - y for x, y in zip(a, b))


def dot(a, b):
    return sum(x * y for x, y in zip(a, b))


def cross(a, b):
    return (a[1] * b[2] - a[2] * b[1], a[2] * b[0] - a[0] * b[2], a[0] * b[1] - a[1] * b[0])


def between(one, other, share):
    return [(x + share * (u - x), y + share * (v - y)) for (x, y), (u, v) in zip(one, other)]


def loft_ring(lower, upper, share):
    """The ring in which a plane cuts the loft of two rings at a share of its height."""
    points = []
    for k in range(len(lower)):
        follower = upper[(k + 1) % len(upper)]
        points.extend(between([lower[k], lower[k]], [upper[k], follower], share))
    return [(number(x), number(y)) for x, y in points]


class SlicesTest(unittest.TestCase):
    def test_a_prism(self):
        ring = [(0, 0), (4, 0), (4, 2), (1, 3)]
        net = loft(ring, 1, ring, 3)
        wanted = of_rings([ring])
        for z, above, below in ((0, 0, 0), (1, 1, 0), ((3, 2), 1, 1), (2, 1, 1), (3, 0, 1), (4, 0, 0), ((1, 2), 0, 0)):
            self.assertEqual(slice_above(net, z), wanted if above else joined())
            self.assertEqual(slice_below(net, z), wanted if below else joined())
        self.assertEqual(slice_above(net=net, z=(2, 1), rule=OVER), wanted)
        self.assertEqual(slice_below(net=net, z=(2, 1), rule=ODD), wanted)

    def test_a_pyramid(self):
        for z, above, below in ((0, 16, 0), (1, 9, 9), (2, 4, 4), (3, 1, 1), (4, 0, 0), (-1, 0, 0), (5, 0, 0)):
            self.assertEqual(size(slice_above(pyramid(), z)), (above, 1))
            self.assertEqual(size(slice_below(pyramid(), z)), (below, 1))
        self.assertEqual(slice_above(pyramid(), (1, 2)), rectangle((1, 4), (1, 4), (15, 4), (15, 4)))
        top = loft([(2, 2)] * 4, 0, SQUARE, 4)
        self.assertEqual(slice_above(top, 0), joined())
        self.assertEqual(slice_below(top, 0), joined())
        self.assertEqual(slice_below(top, 4), rectangle(0, 0, 4, 4))
        self.assertEqual(slice_above(top, 1), rectangle((3, 2), (3, 2), (5, 2), (5, 2)))

    def test_a_tetrahedron(self):
        self.assertEqual(slice_above(TETRAHEDRON, 0), hull([(0, 0), (4, 0), (0, 4)]))
        self.assertEqual(slice_below(TETRAHEDRON, (4, 3)), hull([(0, 0), ((8, 3), 0), (0, (8, 3))]))
        self.assertEqual(slice_above(TETRAHEDRON, 4), joined())

    def test_a_step(self):
        net = together(box_net(0, 0, 0, 4, 4, 1), box_net(0, 0, 1, 2, 2, 3))
        self.assertEqual(slice_below(net, 1), rectangle(0, 0, 4, 4))
        self.assertEqual(slice_above(net, 1), rectangle(0, 0, 2, 2))

    def test_a_leaning_prism(self):
        ring = [(0, 0), (3, 0), (2, 2)]
        net = loft(ring, 0, [(x + 4, y - 2) for x, y in ring], 2)
        self.assertEqual(slice_above(net, 1), moved(of_rings([ring]), 2, -1))
        self.assertEqual(slice_below(net, 2), moved(of_rings([ring]), 4, -2))

    def test_solids_turned_inside_out(self):
        net = turned_out(pyramid())
        square = rectangle(1, 1, 3, 3)
        for rule, wanted in ((SOME, square), (ODD, square), (OVER, joined())):
            self.assertEqual(slice_above(net, 2, rule=rule), wanted)
            self.assertEqual(slice_below(net, 2, rule=rule), wanted)

    def test_overlapping_solids(self):
        one, other = box_net(0, 0, 0, 4, 4, 4), box_net(2, 2, 1, 6, 6, 5)
        p, q = rectangle(0, 0, 4, 4), rectangle(2, 2, 6, 6)
        net = together(one, other)
        self.assertEqual(slice_above(net, 2), joined(p, q))
        self.assertEqual(slice_above(net, 2, rule=OVER), joined(p, q))
        self.assertEqual(slice_above(net, 2, rule=ODD), joined(less(p, q), less(q, p)))
        self.assertEqual(slice_above(net, 0, rule=ODD), p)
        self.assertEqual(slice_below(net, 1, rule=ODD), p)
        self.assertEqual(slice_above(net, 4), q)
        self.assertEqual(slice_below(net, 5, rule=ODD), q)
        hollow = together(one, turned_out(other))
        self.assertEqual(slice_above(hollow, 2), joined(less(p, q), less(q, p)))
        self.assertEqual(slice_above(hollow, 2, rule=OVER), less(p, q))
        self.assertEqual(slice_above(hollow, 2, rule=ODD), joined(less(p, q), less(q, p)))
        twice = together(one, one)
        self.assertEqual(slice_above(twice, 2), p)
        self.assertEqual(slice_above(twice, 2, rule=ODD), joined())
        self.assertEqual(slice_above(together(one, turned_out(one)), 2), joined())

    def test_a_solid_with_a_cave(self):
        net = together(box_net(0, 0, 0, 6, 6, 6), turned_out(box_net(1, 1, 1, 5, 5, 5)))
        frame = less(rectangle(0, 0, 6, 6), rectangle(1, 1, 5, 5))
        for rule in RULES:
            self.assertEqual(slice_above(net, 1, rule=rule), frame)
            self.assertEqual(slice_below(net, 1, rule=rule), rectangle(0, 0, 6, 6))
            self.assertEqual(slice_below(net, 5, rule=rule), frame)
            self.assertEqual(slice_above(net, 5, rule=rule), rectangle(0, 0, 6, 6))

    def test_lofts_are_full_patches_of_their_rings(self):
        for seed in range(40):
            rng = random.Random(seed)
            many = rng.randint(3, 6)
            lower = [(rng.randint(-6, 6), rng.randint(-6, 6)) for _ in range(many)]
            upper = [(rng.randint(-6, 6), rng.randint(-6, 6)) for _ in range(many)]
            net = loft(lower, -1, upper, 2)
            for share in (Fraction(0), Fraction(1, 3), Fraction(5, 7), Fraction(1)):
                z = number(-1 + 3 * share)
                for rule in RULES:
                    wanted = of_rings([loft_ring(lower, upper, share)], rule)
                    if share < 1:
                        self.assertEqual(slice_above(net, z, rule=rule), wanted)
                    if share > 0:
                        self.assertEqual(slice_below(net, z, rule=rule), wanted)

    def test_random_solids(self):
        for seed in range(25):
            rng = random.Random(500 + seed)
            net = random_solid(rng)
            heights = sorted({fraction(corner[2]) for corner in net.corners})
            z = rng.choice(heights + [(heights[0] + heights[1]) / 2, heights[0] - 1, heights[-1] + 1])
            for act, side in ((slice_above, HAIR), (slice_below, -HAIR)):
                for rule in RULES:
                    self.compare(net, z, side, act(net, number(z), rule=rule), RULES[rule], rng)

    def compare(self, net, z, side, got, obeys, rng):
        self.assertEqual(form_faults(got), [])
        self.assertEqual(got, full(got))
        places = [(Fraction(rng.randint(-900, 900), 97), Fraction(rng.randint(-900, 900), 89)) for _ in range(6)]
        for x, y in own_samples(got)[::7]:
            places.append((x + Fraction(rng.randint(-9, 9), 9973), y + Fraction(rng.randint(-9, 9), 9949)))
        for x, y in places:
            x, y = x + Fraction(1, 10 ** 7 + 19), y + Fraction(1, 10 ** 7 + 79)
            self.assertIs(has(got, (x, y)), obeys(winding(net, x, y, z + side)))


class RefusalsTest(unittest.TestCase):
    def test_bad_rules(self):
        opened = Net(TETRAHEDRON.corners, TETRAHEDRON.faces[1:])
        for act in (slice_above, slice_below):
            for rule in BAD_RULES:
                for net in (TETRAHEDRON, opened, Net([], [])):
                    with self.assertRaises(BadRule) as held:
                        act(net, 1, rule=rule)
                    self.assertIs(held.exception.rule, rule)

    def test_not_closed(self):
        for act in (slice_above, slice_below):
            for faces, edges in ((TETRAHEDRON.faces[1:], [(0, 1, 1), (0, 2, -1), (1, 2, 1)]),
                                 ([(0, 1, 2)] * 2, [(0, 1, 2), (0, 2, -2), (1, 2, 2)])):
                for z in (-9, 0, 1, 99):
                    with self.assertRaises(NotClosed) as held:
                        act(Net(TETRAHEDRON.corners, faces), z)
                    self.assertEqual(held.exception.edges, edges)
                    self.assertIsInstance(held.exception.edges, list)

    def test_rules_are_passed_by_name(self):
        for act in (slice_above, slice_below):
            with self.assertRaises(TypeError):
                act(TETRAHEDRON, 1, SOME)

    def test_nets_without_faces_and_faces_without_area(self):
        self.assertEqual(slice_above(Net([], []), 0), joined())
        self.assertEqual(slice_below(Net([(0, 0, 0)], []), 0), joined())
        odd = Net([(0, 0, 0), (4, 0, 4), (2, 0, 2), (0, 4, 4)], [(0, 1, 2), (0, 0, 1), (0, 2, 1), (3, 3, 3), (0, 1, 0)])
        for z in range(5):
            self.assertEqual(slice_above(odd, z), joined())
            self.assertEqual(slice_below(odd, z), joined())
        with_needles = Net(pyramid().corners, pyramid().faces + ((0, 4, 4), (0, 5, 4), (0, 4, 5)))
        for z in (0, 1, 3, 4):
            self.assertEqual(slice_above(with_needles, z), slice_above(pyramid(), z))
            self.assertEqual(slice_below(with_needles, z), slice_below(pyramid(), z))

    def test_an_upright_and_a_level_face(self):
        wedge = loft([(0, 0), (4, 0), (4, 4), (0, 4)], 0, [(0, 0), (4, 0), (4, 0), (0, 0)], 2)
        self.assertEqual(slice_above(wedge, 1), rectangle(0, 0, 4, 2))
        self.assertEqual(slice_below(wedge, 2), joined())
        self.assertEqual(common(slice_above(wedge, 0), slice_above(wedge, 1)), rectangle(0, 0, 4, 2))


if __name__ == "__main__":
    unittest.main()
