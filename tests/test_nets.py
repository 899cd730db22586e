import random
import unittest
from fractions import Fraction

from mostlaid.errors import BadNet
from mostlaid.makers import loft, together
from mostlaid.nets import Net, is_closed, open_edges, volume
from mostlaid.patches import dot

from tests.reference import number
from tests.solids import PROJECTIVE_PLANE, TETRAHEDRON, box_net, fractions_of, points_of, torus_faces, turned_out

CORNERS = [(0, 0, 0), (4, 0, 0), (0, 4, 0), (0, 0, 4)]
WRONG_NUMBERS = (None, True, False, "1", "", (1, 0), (2, 4), (1, -2), (True, 2), (1, True), (1,), (1, 2, 3), [1, 2], [],
                 (), ((1, 2), 3))
WRONG_CORNERS = [None, True, False, 0, 7, "abc", "", (), (0, 0), (0, 0, 0, 0), [0, 0, 0], [], [(0, 1), 0, 0],
                 ((0, 0, 0),), ([0, 1], 0, 0)]
WRONG_FACES = [None, True, 0, "abc", (), (0, 1), (0, 1, 2, 3), [0, 1, 2], [], (0, 1, 4), (4, 1, 0), (0, 99, 1),
               (-1, 0, 1), (0, 1, -4), (0, 1, True), (False, 1, 2), (0, None, 1), (0, "1", 2), (0, (1, 1), 2),
               (0, 1, (2, 1)), ((0, 1, 2),), (0, [1], 2)]


def slow_open_edges(net):
    """The open edges by their definition."""
    found = []
    for a in range(len(net.corners)):
        for b in range(a + 1, len(net.corners)):
            runs = [step for x, y, z in net.faces for step in ((x, y), (y, z), (z, x))]
            surplus = runs.count((a, b)) - runs.count((b, a))
            if surplus != 0:
                found.append((a, b, surplus))
    return found


def slow_volume(net):
    total = Fraction(0)
    for face in net.faces:
        (a, b, c), (d, e, f), (g, h, i) = [fractions_of(net.corners[k]) for k in face]
        total += a * e * i + b * f * g + c * d * h - c * e * g - b * d * i - a * f * h
    return number(total / 6)


def random_net(rng, corners=6, faces=8):
    places = [(rng.randint(0, 3), rng.randint(0, 3), (rng.randint(-3, 3), 7)) for _ in range(corners)]
    places = [(x, y, number(Fraction(*z))) for x, y, z in places]
    return Net(places, [tuple(rng.randrange(corners) for _ in range(3)) for _ in range(faces)])


class NetTest(unittest.TestCase):
    def refuses(self, corners, faces, word, index):
        with self.assertRaises(BadNet) as held:
            Net(corners, faces)
        self.assertEqual((held.exception.word, held.exception.index), (word, index))

    def test_attributes(self):
        net = Net([(0, (1, 2), -3), ((0, 1), 5, (-7, 3))], [(0, 1, 1), (0, 0, 0)])
        self.assertEqual(net.corners, (((0, 1), (1, 2), (-3, 1)), ((0, 1), (5, 1), (-7, 3))))
        self.assertEqual(net.faces, ((0, 1, 1), (0, 0, 0)))
        empty = Net([], [])
        self.assertEqual((empty.corners, empty.faces), ((), ()))
        self.assertEqual(Net(corners=((1, 2, 3),), faces=((0, 0, 0),)), Net(faces=[(0, 0, 0)], corners=[(1, 2, 3)]))
        huge = 10 ** 40
        self.assertEqual(Net([(huge, (1, huge), -huge)], []).corners, (((huge, 1), (1, huge), (-huge, 1)),))

    def test_wrong_corners(self):
        wrong = WRONG_CORNERS + [(0, 0, bad) for bad in WRONG_NUMBERS] + [(bad, 0, 0) for bad in WRONG_NUMBERS]
        for corner in wrong:
            for at in range(5):
                self.refuses(CORNERS[:at] + [corner] + CORNERS[at:], [], "corner", at)
        self.refuses(CORNERS + ["a", "b"], [], "corner", 4)
        self.refuses((CORNERS[0], None, CORNERS[1], (1,)), [], "corner", 1)

    def test_wrong_faces(self):
        for face in WRONG_FACES:
            for at in range(3):
                faces = [(0, 1, 2), (2, 1, 3)]
                self.refuses(CORNERS, faces[:at] + [face] + faces[at:], "face", at)
        self.refuses(CORNERS, [(0, 1, 2), (0, 1, 9), None], "face", 1)
        self.refuses([], [(0, 0, 0)], "face", 0)
        self.refuses([(0, 0, 0)], ((0, 0, 0), (0, 0, 1)), "face", 1)

    def test_corners_come_ahead_of_faces(self):
        self.refuses(CORNERS + [None], [None], "corner", 4)
        self.refuses([[0, 0, 0]], [(0, 0, 0), (1, 1, 1)], "corner", 0)

    def test_equality(self):
        net = Net(CORNERS, [(0, 1, 2), (0, 2, 3)])
        self.assertTrue(net == Net(tuple(((x, 1), (y, 1), z) for x, y, z in CORNERS), ((0, 1, 2), (0, 2, 3))))
        self.assertFalse(net != Net(CORNERS, [(0, 1, 2), (0, 2, 3)]))
        others = [Net(CORNERS, [(0, 2, 3), (0, 1, 2)]), Net(CORNERS, [(1, 2, 0), (0, 2, 3)]), Net(CORNERS, [(0, 1, 2)]),
                  Net(CORNERS + [(9, 9, 9)], [(0, 1, 2), (0, 2, 3)]), Net(CORNERS[::-1], [(0, 1, 2), (0, 2, 3)]),
                  Net([], []), None, True, 0, "net", (), [], (net.corners, net.faces), dot(0, 0)]
        for other in others:
            self.assertIs(net == other, False)
            self.assertIs(net != other, True)
        self.assertEqual(Net([], []), Net((), ()))

    def test_lists_that_are_changed_behind(self):
        corners, faces = list(CORNERS), [(0, 1, 2)]
        net = Net(corners, faces)
        corners[0] = (9, 9, 9)
        faces.append((1, 1, 1))
        self.assertEqual(net, Net(CORNERS, [(0, 1, 2)]))
        self.assertEqual(faces, [(0, 1, 2), (1, 1, 1)])

    def test_nothing_passed_is_changed(self):
        corners, faces = list(CORNERS), [(0, 1, 2), (3, 2, 1)]
        Net(corners, faces)
        self.assertEqual((corners, faces), (CORNERS, [(0, 1, 2), (3, 2, 1)]))


class EdgesTest(unittest.TestCase):
    def test_open_edges(self):
        for faces, wanted in [
                ([], []), ([(0, 0, 0)], []), ([(0, 1, 1)], []), ([(1, 0, 0), (2, 2, 3)], []),
                ([(0, 1, 2)], [(0, 1, 1), (0, 2, -1), (1, 2, 1)]), ([(0, 2, 1)], [(0, 1, -1), (0, 2, 1), (1, 2, -1)]),
                ([(0, 1, 2), (0, 2, 1)], []), ([(0, 1, 2), (2, 0, 1)], [(0, 1, 2), (0, 2, -2), (1, 2, 2)]),
                ([(3, 1, 0), (0, 1, 2)], [(0, 2, -1), (0, 3, 1), (1, 2, 1), (1, 3, -1)])]:
            self.assertEqual(open_edges(Net(CORNERS, faces)), wanted)
            self.assertIs(is_closed(Net(CORNERS, faces)), wanted == [])
        self.assertEqual(open_edges(net=TETRAHEDRON), [])
        self.assertIs(is_closed(net=TETRAHEDRON), True)

    def test_corners_at_one_place_are_different(self):
        net = Net([(0, 0, 0), (1, 0, 0), (0, 1, 0), (0, 0, 0)], [(0, 1, 2), (3, 2, 1)])
        self.assertEqual(open_edges(net), [(0, 1, 1), (0, 2, -1), (1, 3, 1), (2, 3, -1)])

    def test_ascending_with_many_indexes(self):
        net = Net(points_of(12), [(10, 11, 2), (0, 10, 9)])
        self.assertEqual(open_edges(net), [(0, 9, -1), (0, 10, 1), (2, 10, 1), (2, 11, -1), (9, 10, -1), (10, 11, 1)])

    def test_closed_surfaces(self):
        self.assertTrue(is_closed(Net(points_of(20), torus_faces(4, 5))))
        self.assertFalse(is_closed(Net(points_of(20), torus_faces(4, 5, True))))
        self.assertFalse(is_closed(Net(points_of(6), PROJECTIVE_PLANE)))
        self.assertFalse(is_closed(Net(TETRAHEDRON.corners, TETRAHEDRON.faces[1:])))

    def test_lists_are_new(self):
        net = Net(CORNERS, [(0, 1, 2)])
        first = open_edges(net)
        first.append("more")
        self.assertEqual(open_edges(net), [(0, 1, 1), (0, 2, -1), (1, 2, 1)])
        self.assertIsInstance(first, list)

    def test_random_nets(self):
        for seed in range(60):
            net = random_net(random.Random(seed), 5, 10)
            self.assertEqual(open_edges(net), slow_open_edges(net))
            self.assertIs(is_closed(net), slow_open_edges(net) == [])


class VolumeTest(unittest.TestCase):
    def test_solids(self):
        self.assertEqual(volume(net=box_net(0, 0, 0, 2, 3, 4)), (24, 1))
        self.assertEqual(volume(box_net(-5, 7, (1, 2), -4, (15, 2), 1)), (1, 4))
        self.assertEqual(volume(TETRAHEDRON), (32, 3))
        self.assertEqual(volume(turned_out(TETRAHEDRON)), (-32, 3))
        self.assertEqual(volume(Net([], [])), (0, 1))
        self.assertEqual(volume(Net(CORNERS, [])), (0, 1))
        pyramid = loft([(0, 0), (4, 0), (4, 4), (0, 4)], 0, [(2, 2)] * 4, 4)
        self.assertEqual(volume(pyramid), (64, 3))
        self.assertEqual(volume(together(pyramid, turned_out(pyramid))), (0, 1))

    def test_nets_that_are_open(self):
        self.assertEqual(volume(Net([(1, 0, 0), (0, 2, 0), (0, 0, 3)], [(0, 1, 2)])), (1, 1))
        self.assertEqual(volume(Net([(1, 0, 0), (0, 2, 0), (0, 0, 3)], [(0, 2, 1), (0, 0, 1)])), (-1, 1))
        self.assertEqual(volume(Net([((1, 2), 0, 0), (0, (1, 3), 0), (0, 0, (1, 5))], [(0, 1, 2)])), (1, 180))

    def test_random_nets(self):
        for seed in range(60):
            net = random_net(random.Random(100 + seed))
            self.assertEqual(volume(net), slow_volume(net))


if __name__ == "__main__":
    unittest.main()
