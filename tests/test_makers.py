import random
import unittest
from fractions import Fraction

from mostlaid.errors import BadLoft, Singular
from mostlaid.makers import loft, net_of, placed, together
from mostlaid.measures import size
from mostlaid.nets import Net, is_closed, open_edges, volume
from mostlaid.patches import rectangle, segment
from mostlaid.rings import hull, of_rings
from mostlaid.sets import full, joined, less
from mostlaid.slices import slice_above, slice_below

from tests.makers import random_shapes
from tests.reference import fraction, number
from tests.solids import TETRAHEDRON, box_net, turned_out

SQUARE = [(0, 0), (4, 0), (4, 4), (0, 4)]
ONE = [[1, 0, 0], [0, 1, 0], [0, 0, 1]]


class LoftTest(unittest.TestCase):
    def test_three_points(self):
        net = loft([(0, 0), (1, 0), (0, 1)], 2, [(5, 5), ((13, 2), 5), (5, 6)], (7, 2))
        self.assertEqual(net.corners, (((0, 1), (0, 1), (2, 1)), ((1, 1), (0, 1), (2, 1)), ((0, 1), (1, 1), (2, 1)),
                                       ((5, 1), (5, 1), (7, 2)), ((13, 2), (5, 1), (7, 2)), ((5, 1), (6, 1), (7, 2))))
        self.assertEqual(net.faces, ((0, 1, 4), (0, 4, 3), (1, 2, 5), (1, 5, 4), (2, 0, 3), (2, 3, 5), (0, 2, 1),
                                     (3, 4, 5)))

    def test_five_points(self):
        ring = [(0, 0), (2, 0), (3, 1), (2, 2), (0, 2)]
        net = loft(lower=ring, z0=-1, upper=ring, z1=0)
        self.assertEqual(net.corners[4], ((0, 1), (2, 1), (-1, 1)))
        self.assertEqual(net.corners[5], ((0, 1), (0, 1), (0, 1)))
        self.assertEqual(net.faces, ((0, 1, 6), (0, 6, 5), (1, 2, 7), (1, 7, 6), (2, 3, 8), (2, 8, 7), (3, 4, 9),
                                     (3, 9, 8), (4, 0, 5), (4, 5, 9), (0, 2, 1), (0, 3, 2), (0, 4, 3), (5, 6, 7),
                                     (5, 7, 8), (5, 8, 9)))
        self.assertTrue(is_closed(net))
        self.assertEqual(volume(net), (5, 1))

    def test_a_pyramid_and_a_wedge(self):
        pyramid = loft(tuple(SQUARE), 0, ((2, 2),) * 4, 4)
        self.assertEqual(len(pyramid.corners), 8)
        self.assertEqual(volume(pyramid), (64, 3))
        wedge = loft(SQUARE, 0, [(0, 2), (4, 2), (4, 2), (0, 2)], 3)
        self.assertEqual(volume(wedge), (24, 1))
        self.assertTrue(is_closed(wedge))
        self.assertTrue(is_closed(loft([(0, 0)] * 3, 0, [(0, 0)] * 3, 1)))

    def test_bad_lofts(self):
        for lower, z0, upper, z1 in [(SQUARE, 0, SQUARE[:3], 1), (SQUARE[:3], 0, SQUARE, 1), ([], 0, [], 1),
                                     (SQUARE[:2], 0, SQUARE[:2], 1), (SQUARE[:1], 0, SQUARE[:1], 1), ([], 0, SQUARE, 1),
                                     (SQUARE, 1, SQUARE, 1), (SQUARE, 2, SQUARE, 1), (SQUARE, (1, 2), SQUARE, (1, 3)),
                                     (SQUARE, (1, 1), SQUARE, 1), (SQUARE, 9, SQUARE[:3], 1)]:
            with self.assertRaises(BadLoft):
                loft(lower, z0, upper, z1)
        self.assertTrue(is_closed(loft(SQUARE, (1, 3), SQUARE, (1, 2))))
        self.assertTrue(is_closed(loft(SQUARE, -2, SQUARE, -1)))

    def test_nothing_passed_is_changed(self):
        lower, upper = list(SQUARE), [(1, 1)] * 4
        net = loft(lower, 0, upper, 1)
        self.assertEqual((lower, upper), (SQUARE, [(1, 1)] * 4))
        lower[0] = (9, 9)
        self.assertEqual(net, loft(SQUARE, 0, upper, 1))


class TogetherTest(unittest.TestCase):
    def test_none_one_and_more(self):
        self.assertEqual(together(), Net([], []))
        self.assertEqual(together(TETRAHEDRON), TETRAHEDRON)
        one, other = Net([(0, 0, 0)], [(0, 0, 0)]), Net([(1, 1, 1), (2, 2, 2), (0, 0, 0)], [(0, 1, 2), (2, 1, 1)])
        self.assertEqual(together(one, other), Net([(0, 0, 0), (1, 1, 1), (2, 2, 2), (0, 0, 0)],
                                                   [(0, 0, 0), (1, 2, 3), (3, 2, 2)]))
        self.assertEqual(together(other, Net([], []), one, one),
                         Net(other.corners + one.corners * 2, [(0, 1, 2), (2, 1, 1), (3, 3, 3), (4, 4, 4)]))
        self.assertEqual(together(Net([(5, 5, 5)], []), one).faces, ((1, 1, 1),))

    def test_volumes_add(self):
        net = together(TETRAHEDRON, box_net(9, 9, 9, 10, 10, 10), turned_out(TETRAHEDRON))
        self.assertEqual(volume(net), (1, 1))
        self.assertTrue(is_closed(net))


class PlacedTest(unittest.TestCase):
    def test_the_same_place(self):
        self.assertEqual(placed(TETRAHEDRON, ONE, (0, 0, 0)), TETRAHEDRON)
        self.assertEqual(placed(net=TETRAHEDRON, table=tuple(ONE), shift=((0, 1), 0, 0)), TETRAHEDRON)

    def test_corners_are_columns(self):
        net = Net([(1, 10, 100), (0, 0, 0)], [(0, 1, 0)])
        found = placed(net, [[1, 2, 3], [0, 1, 4], [(1, 2), 0, 1]], (5, (1, 3), -7))
        self.assertEqual(found, Net([(326, (1231, 3), (187, 2)), (5, (1, 3), -7)], [(0, 1, 0)]))

    def test_a_determinant_above_zero(self):
        turn = [[0, -1, 0], [1, 0, 0], [0, 0, 2]]
        found = placed(TETRAHEDRON, turn, (0, 0, 1))
        self.assertEqual(found.faces, TETRAHEDRON.faces)
        self.assertEqual(volume(found), (64, 3))

    def test_a_determinant_below_zero(self):
        mirror = [[-1, 0, 0], [0, 1, 0], [0, 0, 1]]
        found = placed(TETRAHEDRON, mirror, (4, 0, 0))
        self.assertEqual(found.faces, tuple((a, c, b) for a, b, c in TETRAHEDRON.faces))
        self.assertEqual(found.corners[1], ((0, 1), (0, 1), (0, 1)))
        self.assertEqual(volume(found), (32, 3))
        odd = Net([(0, 0, 0), (1, 2, 3)], [(0, 0, 1), (0, 1, 0)])
        self.assertEqual(placed(odd, mirror, (0, 0, 0)).faces, ((0, 1, 0), (0, 0, 1)))

    def test_singular(self):
        for table in ([[0, 0, 0]] * 3, [[1, 2, 3], [2, 4, 6], [0, 0, 1]], [[1, 0, 0], [0, 1, 0], [1, 1, 0]],
                      [[(1, 2), (1, 3), 0], [(1, 4), (1, 6), 0], [7, 8, 9]]):
            with self.assertRaises(Singular):
                placed(TETRAHEDRON, table, (0, 0, 0))
            with self.assertRaises(Singular):
                placed(Net([], []), table, (0, 0, 0))

    def test_random_tables(self):
        for seed in range(40):
            rng = random.Random(seed)
            table = [[number(Fraction(rng.randint(-4, 4), rng.randint(1, 3))) for _ in range(3)] for _ in range(3)]
            (a, b, c), (d, e, f), (g, h, i) = [[fraction(x) for x in row] for row in table]
            turn = a * (e * i - f * h) - b * (d * i - f * g) + c * (d * h - e * g)
            if turn == 0:
                continue
            before = [list(row) for row in table]
            found = placed(TETRAHEDRON, table, (1, 2, 3))
            self.assertEqual(fraction(volume(found)), abs(turn) * Fraction(32, 3))
            self.assertEqual(found.faces == TETRAHEDRON.faces, turn > 0)
            self.assertTrue(is_closed(found))
            self.assertEqual(table, before)


class NetOfTest(unittest.TestCase):
    def test_the_order_of_corners_and_faces(self):
        net = net_of([0, 2], [rectangle(0, 0, 4, 4)])
        self.assertEqual(net, loft(SQUARE, 0, SQUARE, 2))
        two = joined(rectangle(0, 0, 1, 1), rectangle(2, 0, 3, 1))
        wanted = together(box_net(0, 0, 0, 1, 1, 1), box_net(2, 0, 0, 3, 1, 1), box_net(5, 0, 1, 6, 1, (5, 2)))
        self.assertEqual(net_of(heights=(0, 1, (5, 2)), bodies=(two, rectangle(5, 0, 6, 1))), wanted)

    def test_strips_that_are_no_rectangles(self):
        p = hull([(0, 0), (4, 0), (1, 2)])
        ring = [(0, 0), (4, 0), (1, 2), (1, 2)]
        self.assertEqual(net_of([0, 1], [p]), loft(ring, 0, ring, 1))
        diamond = hull([(0, 0), (2, 2), (0, 4), (-2, 2)])
        low = [(0, 0), (0, 0), (2, 2), (-2, 2)]
        high = [(-2, 2), (2, 2), (0, 4), (0, 4)]
        self.assertEqual(net_of([0, 1], [diamond]), together(loft(low, 0, low, 1), loft(high, 0, high, 1)))

    def test_nothing(self):
        self.assertEqual(net_of([0, 1, 2], [joined(), joined()]), Net([], []))
        self.assertEqual(net_of([0], []), Net([], []))
        self.assertEqual(net_of([0, 1], [segment(0, 0, 0, 4)]), Net([], []))
        self.assertEqual(net_of([0, 1, 2], [joined(), rectangle(0, 0, 1, 1)]), box_net(0, 0, 1, 1, 1, 2))

    def test_closed_and_its_slices_are_the_bodies_again(self):
        for seed in range(25):
            rng = random.Random(seed)
            bodies = [full(random_shapes(rng, 3).patch) for _ in range(3)]
            heights = [0, (1, 2), 2, 3]
            net = net_of(heights, bodies)
            self.assertEqual(open_edges(net), [])
            for at, body in enumerate(bodies):
                self.assertEqual(slice_above(net, heights[at]), body)
                self.assertEqual(slice_below(net, heights[at + 1]), body)
            parts = [fraction(size(body)) * (fraction(heights[at + 1]) - fraction(heights[at]))
                     for at, body in enumerate(bodies)]
            self.assertEqual(fraction(volume(net)), sum(parts))

    def test_a_frame(self):
        frame = less(rectangle(0, 0, 6, 6), of_rings([[(1, 1), (5, 2), (3, 5)]]))
        net = net_of([0, 1], [frame])
        self.assertTrue(is_closed(net))
        self.assertEqual(slice_above(net, (1, 2)), frame)


if __name__ == "__main__":
    unittest.main()
