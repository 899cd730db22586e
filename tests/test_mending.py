import random
import unittest
from fractions import Fraction

from mostlaid.errors import NotTwo, Twisted
from mostlaid.makers import loft, together
from mostlaid.mending import capped, faced, jointed, welded
from mostlaid.nets import Net, is_closed, open_edges, volume

from tests.solids import PROJECTIVE_PLANE, TETRAHEDRON, box_net, fractions_of, points_of, torus_faces, turned_out

LINE = [(0, 0, 0), (4, 0, 0), (0, 4, 0), (2, 0, 0), (1, 0, 0), (3, 0, 0)]


def steps_of(face):
    a, b, c = face
    return [(a, b), (b, c), (c, a)]


def is_proper(face):
    return len(set(face)) == 3


def random_net(rng, corners=7, faces=8, most=2):
    places = [tuple(rng.randint(0, most) for _ in range(3)) for _ in range(corners)]
    return Net(places, [tuple(rng.randrange(corners) for _ in range(3)) for _ in range(faces)])


def slow_welded(net):
    places = []
    for corner in net.corners:
        if corner not in places:
            places.append(corner)
    faces = [tuple(places.index(net.corners[k]) for k in face) for face in net.faces]
    return Net(places, [face for face in faces if is_proper(face)])


def share_between(a, b, z):
    """The share of the way from a to b at which z lies; None if it does not lie strictly between them."""
    along = [y - x for x, y in zip(a, b)]
    shares = [(w - x) / d for x, w, d in zip(a, z, along) if d != 0]
    if not shares or any(share != shares[0] for share in shares) or not 0 < shares[0] < 1:
        return None
    return shares[0] if all(x + shares[0] * d == w for x, w, d in zip(a, z, along)) else None


def slow_joint(net, faces):
    places = [fractions_of(corner) for corner in net.corners]
    for a, b, _ in open_edges(Net(net.corners, faces)):
        shares = [(share_between(places[a], places[b], z), w) for w, z in enumerate(places)]
        shares = [item for item in shares if item[0] is not None]
        if shares:
            return a, b, min(shares)[1]
    return None


def slow_jointed(net):
    """The words of the document, one step after another; with the number of the steps."""
    faces = [face for face in net.faces if is_proper(face)]
    many = 0
    while True:
        joint = slow_joint(net, faces)
        if joint is None:
            return Net(net.corners, faces), many
        a, b, w = joint
        many += 1
        replaced = []
        for x, y, z in faces:
            parts = [(x, y, z)]
            for p, q, r in ((x, y, z), (y, z, x), (z, x, y)):
                if (p, q) in ((a, b), (b, a)):
                    parts = [(p, w, r), (w, q, r)]
            replaced.extend(part for part in parts if is_proper(part))
        faces = replaced


class WeldedTest(unittest.TestCase):
    def test_places_in_the_order_in_which_they_first_stand(self):
        net = Net([(5, 0, 0), (0, 0, 0), (5, 0, 0), (1, 1, 1), (0, 0, 0), (7, 7, 7)],
                  [(0, 1, 3), (2, 4, 3), (3, 5, 4), (0, 2, 3), (1, 1, 3)])
        self.assertEqual(welded(net), Net([(5, 0, 0), (0, 0, 0), (1, 1, 1), (7, 7, 7)],
                                          [(0, 1, 2), (0, 1, 2), (2, 3, 1)]))

    def test_numbers_that_are_equal(self):
        net = Net([(1, (1, 2), 0), ((1, 1), (1, 2), (0, 1)), (1, (2, 3), 0)], [(0, 1, 2), (2, 1, 2)])
        self.assertEqual(welded(net), Net([(1, (1, 2), 0), (1, (2, 3), 0)], []))

    def test_corners_without_faces_stay(self):
        self.assertEqual(welded(net=Net([(1, 1, 1), (2, 2, 2), (1, 1, 1)], [])), Net([(1, 1, 1), (2, 2, 2)], []))
        self.assertEqual(welded(Net([], [])), Net([], []))

    def test_faces_without_area_stay(self):
        net = Net(LINE, [(0, 1, 3), (3, 4, 5)])
        self.assertEqual(welded(net), net)

    def test_a_prism_of_loose_faces(self):
        prism = box_net(0, 0, 0, 2, 3, 4)
        corners = [prism.corners[k] for face in prism.faces for k in face]
        loose = Net(corners, [(k, k + 1, k + 2) for k in range(0, len(corners), 3)])
        self.assertFalse(is_closed(loose))
        found = welded(loose)
        self.assertTrue(is_closed(found))
        self.assertEqual(len(found.corners), 8)
        self.assertEqual(volume(found), (24, 1))

    def test_a_pyramid(self):
        pyramid = loft([(0, 0), (4, 0), (4, 4), (0, 4)], 0, [(2, 2)] * 4, 4)
        found = welded(pyramid)
        self.assertEqual(len(found.corners), 5)
        self.assertEqual(found.faces, ((0, 1, 4), (1, 2, 4), (2, 3, 4), (3, 0, 4), (0, 2, 1), (0, 3, 2)))

    def test_random_nets(self):
        for seed in range(60):
            net = random_net(random.Random(seed), 9, 9, 1)
            before = Net(net.corners, net.faces)
            found = welded(net)
            self.assertEqual(found, slow_welded(net))
            self.assertEqual(welded(found), found)
            self.assertEqual(net, before)


class JointedTest(unittest.TestCase):
    def test_one_corner_on_an_edge(self):
        net = Net(LINE[:4], [(0, 1, 2)])
        self.assertEqual(jointed(net), Net(LINE[:4], [(0, 3, 2), (3, 1, 2)]))
        net = Net(LINE[:4], [(1, 0, 2)])
        self.assertEqual(jointed(net), Net(LINE[:4], [(1, 3, 2), (3, 0, 2)]))
        net = Net(LINE[:4], [(2, 0, 1)])
        self.assertEqual(jointed(net), Net(LINE[:4], [(0, 3, 2), (3, 1, 2)]))
        net = Net(LINE[:4], [(1, 2, 0)])
        self.assertEqual(jointed(net), Net(LINE[:4], [(0, 3, 2), (3, 1, 2)]))

    def test_the_nearest_one_goes_first(self):
        net = Net(LINE, [(0, 1, 2)])
        self.assertEqual(jointed(net), Net(LINE, [(0, 4, 2), (4, 3, 2), (3, 5, 2), (5, 1, 2)]))

    def test_several_at_one_place(self):
        corners = LINE[:4] + [(2, 0, 0), (2, 0, 0)]
        self.assertEqual(jointed(Net(corners, [(0, 1, 2)])), Net(corners, [(0, 3, 2), (3, 1, 2)]))
        corners = [(2, 0, 0)] + LINE[:4]
        self.assertEqual(jointed(Net(corners, [(1, 2, 3)])), Net(corners, [(1, 0, 3), (0, 2, 3)]))

    def test_faces_with_equal_indexes_are_left_out_first(self):
        net = Net(LINE[:4], [(0, 0, 1), (0, 1, 2), (3, 3, 3), (1, 0, 1)])
        self.assertEqual(jointed(net), Net(LINE[:4], [(0, 3, 2), (3, 1, 2)]))

    def test_edges_that_are_not_open_stay(self):
        net = Net(LINE[:4], [(0, 1, 2), (1, 0, 2)])
        self.assertEqual(jointed(net), net)

    def test_ends_and_other_lines_do_not_count(self):
        for place in ((0, 0, 0), (4, 0, 0), (-1, 0, 0), (5, 0, 0), (2, (1, 100), 0), (2, 0, 1), (0, 0, 2)):
            net = Net(LINE[:3] + [place], [(0, 1, 2)])
            self.assertEqual(jointed(net), net)
        net = Net([(0, 0, 0), (0, 0, 0), (1, 1, 1), (0, 0, 0)], [(0, 1, 2)])
        self.assertEqual(jointed(net), net)

    def test_needles(self):
        net = Net(LINE[:4], [(0, 1, 3)])
        self.assertEqual(jointed(net), Net(LINE[:4], []))
        net = Net(LINE, [(0, 1, 5)])
        self.assertEqual(jointed(net), slow_jointed(net)[0])

    def test_all_faces_along_the_edge_are_split(self):
        corners = LINE[:4] + [(0, 0, 4), (0, -4, 0)]
        net = Net(corners, [(0, 1, 2), (4, 1, 0), (5, 0, 1)])
        self.assertEqual(jointed(net), Net(corners, [(0, 3, 2), (3, 1, 2), (1, 3, 4), (3, 0, 4), (0, 3, 5),
                                                     (3, 1, 5)]))

    def test_two_boxes_that_stand_side_by_side(self):
        low, high = box_net(0, 0, 0, 2, 2, 2), box_net(0, 0, 2, 2, 2, 3)
        tall = box_net(2, 0, 0, 4, 2, 3)
        pieces = [Net(net.corners, [face for face in net.faces if not keeps(net, face)]) for net in (low, high, tall)]
        skin = welded(together(*pieces))
        self.assertFalse(is_closed(skin))
        found = jointed(skin)
        self.assertTrue(is_closed(found))
        self.assertEqual(volume(found), (24, 1))

    def test_fractions(self):
        corners = [((1, 3), (1, 7), 0), ((4, 3), (8, 7), 2), (5, 5, 5), ((5, 6), (9, 14), 1)]
        net = Net(corners, [(0, 1, 2)])
        self.assertEqual(jointed(net), Net(corners, [(0, 3, 2), (3, 1, 2)]))

    def test_random_nets(self):
        steps = 0
        for seed in range(120):
            rng = random.Random(seed)
            net = random_net(rng, rng.randint(5, 12), rng.randint(1, 9), rng.choice((2, 3, 4)))
            if seed % 3 == 0:
                net = Net([(x, 0, 0) for x, _, _ in net.corners], net.faces)
            before = Net(net.corners, net.faces)
            for given in (net, welded(net)):
                wanted, many = slow_jointed(given)
                steps += many
                found = jointed(given)
                self.assertEqual(found, wanted)
                self.assertEqual(jointed(found), found)
            self.assertEqual(net, before)
        self.assertGreater(steps, 100)

    def test_slanted_edges_with_fractions(self):
        hits = 0
        for seed in range(60):
            rng = random.Random(seed)
            ends = [tuple(Fraction(rng.randint(-20, 20), rng.choice((1, 2, 3, 5, 7))) for _ in range(3))
                    for _ in range(3)]
            corners = list(ends)
            for _ in range(8):
                p, q = rng.sample(ends, 2)
                share = Fraction(rng.randint(-1, 6), 5)
                place = [x + share * (y - x) for x, y in zip(p, q)]
                if rng.random() < 0.5:
                    place[rng.randrange(3)] += Fraction(rng.choice((-1, 1)), rng.choice((1, 11)))
                corners.append(tuple(place))
            net = Net([tuple((x.numerator, x.denominator) for x in place) for place in corners], [(0, 1, 2), (0, 1, 5)])
            wanted, many = slow_jointed(net)
            self.assertEqual(jointed(net), wanted)
            hits += many
        self.assertGreater(hits, 60)

    def test_corners_beside_a_slanted_edge(self):
        ends = [(0, 0, 0), (2, 4, 6), (0, 9, 0)]
        for place, on in (((1, 2, 3), True), ((1, 2, 4), False), ((1, 3, 3), False), ((2, 2, 3), False),
                          ((1, 2, 2), False), ((0, 2, 3), False), ((1, 1, 3), False), ((3, 2, 1), False)):
            for turn in range(3):
                corners = [corner[turn:] + corner[:turn] for corner in ends + [place]]
                wanted = [(0, 3, 2), (3, 1, 2)] if on else [(0, 1, 2)]
                self.assertEqual(jointed(Net(corners, [(0, 1, 2)])), Net(corners, wanted))

    def test_a_great_net(self):
        corners = [(k, 0, 0) for k in range(30)] + [(0, k + 1, 1) for k in range(10)]
        net = Net(corners, [(0, 29, 30 + k % 10) for k in range(60)])
        found = jointed(net)
        self.assertEqual(len(found.faces), 29 * 60)
        self.assertEqual(found.faces[:2], ((0, 1, 30), (1, 2, 30)))


def keeps(net, face):
    """Whether a face lies within the planes x = 2 or z = 2, where pieces meet."""
    places = [fractions_of(net.corners[k]) for k in face]
    return all(place[0] == 2 for place in places) or all(place[2] == 2 for place in places)


def neighbours(faces, one, other):
    shared = [step for step in steps_of(faces[one]) if step in steps_of(faces[other])]
    turned = [step for step in steps_of(faces[one]) if step[::-1] in steps_of(faces[other])]
    return bool(shared), bool(turned)


class FacedTest(unittest.TestCase):
    def mixed(self, rng, faces):
        found = []
        for a, b, c in faces:
            face = rng.choice([(a, b, c), (b, c, a), (c, a, b), (a, c, b), (b, a, c), (c, b, a)])
            found.append(face)
        return found

    def not_two(self, faces, edge):
        with self.assertRaises(NotTwo) as held:
            faced(Net(points_of(20), faces))
        self.assertEqual(held.exception.edge, edge)

    def test_one_face_is_turned(self):
        a, b, c, d = TETRAHEDRON.faces
        net = Net(TETRAHEDRON.corners, [a, b, (c[0], c[2], c[1]), d])
        self.assertEqual(faced(net), TETRAHEDRON)
        self.assertEqual(faced(net=TETRAHEDRON), TETRAHEDRON)
        self.assertEqual(faced(turned_out(TETRAHEDRON)), turned_out(TETRAHEDRON))
        first = Net(TETRAHEDRON.corners, [(a[0], a[2], a[1]), b, c, d])
        self.assertEqual(faced(first), turned_out(TETRAHEDRON))

    def test_the_corners_stay(self):
        corners = list(TETRAHEDRON.corners) + [(9, 9, 9), (0, 0, 0)]
        net = Net(corners, TETRAHEDRON.faces)
        self.assertEqual(faced(net), net)

    def test_faces_with_equal_indexes_are_left_out(self):
        net = Net(TETRAHEDRON.corners, [(0, 0, 1)] + list(TETRAHEDRON.faces[:2]) + [(3, 3, 3), (1, 2, 1)]
                  + list(TETRAHEDRON.faces[2:]) + [(0, 2, 2)])
        self.assertEqual(faced(net), TETRAHEDRON)
        self.assertEqual(faced(Net(points_of(3), [(0, 0, 0), (1, 2, 2)])), Net(points_of(3), []))
        self.assertEqual(faced(Net([], [])), Net([], []))

    def test_two_faces_over_one_another(self):
        for second in ((0, 1, 2), (1, 2, 0), (2, 0, 1)):
            a, b, c = second
            self.assertEqual(faced(Net(points_of(3), [(0, 1, 2), second])).faces, ((0, 1, 2), (a, c, b)))
            other = (a, c, b)
            self.assertEqual(faced(Net(points_of(3), [(0, 1, 2), other])).faces, ((0, 1, 2), other))

    def test_each_set_keeps_its_first_face(self):
        far = [(a + 4, b + 4, c + 4) for a, b, c in TETRAHEDRON.faces]
        faces = [TETRAHEDRON.faces[0], far[2], TETRAHEDRON.faces[1], far[0], (far[1][0], far[1][2], far[1][1]),
                 TETRAHEDRON.faces[2], far[3], TETRAHEDRON.faces[3]]
        wanted = [TETRAHEDRON.faces[0], far[2], TETRAHEDRON.faces[1], far[0], far[1], TETRAHEDRON.faces[2], far[3],
                  TETRAHEDRON.faces[3]]
        self.assertEqual(faced(Net(points_of(8), faces)).faces, tuple(wanted))
        faces[1] = (far[2][0], far[2][2], far[2][1])
        turned = {face: (face[0], face[2], face[1]) for face in far}
        self.assertEqual(faced(Net(points_of(8), faces)).faces,
                         tuple(turned.get(face, face) for face in wanted))

    def test_not_two(self):
        self.not_two([(0, 1, 2)], (0, 1))
        self.not_two([(2, 1, 0)], (0, 1))
        self.not_two([(5, 3, 9)], (3, 5))
        self.not_two([(0, 1, 2), (0, 1, 2), (2, 1, 0)], (0, 1))
        self.not_two(list(TETRAHEDRON.faces[1:]), (0, 1))
        self.not_two(list(TETRAHEDRON.faces) + [(1, 2, 3), (3, 2, 1)], (1, 2))
        self.not_two(list(TETRAHEDRON.faces) + [(4, 2, 3), (4, 3, 2)], (2, 3))
        self.not_two([(0, 0, 1), (10, 11, 2)], (2, 10))

    def test_not_two_comes_ahead_of_twisted(self):
        faces = [(a + 3, b + 3, c + 3) for a, b, c in PROJECTIVE_PLANE]
        self.not_two(faces + [(10, 11, 12)], (10, 11))
        self.not_two([(0, 1, 2)] + faces, (0, 1))

    def test_random_surfaces(self):
        rng = random.Random(7)
        for faces, many in ((torus_faces(3, 3), 9), (torus_faces(4, 5), 20), (TETRAHEDRON.faces, 4),
                            (box_net(0, 0, 0, 1, 1, 1).faces, 8)):
            for _ in range(10):
                mixed = self.mixed(rng, faces)
                rng.shuffle(mixed)
                net = Net(points_of(many), mixed)
                found = faced(net)
                self.assertEqual(net.faces, tuple(mixed))
                self.assertTrue(is_closed(found))
                self.assertEqual(found.faces[0], mixed[0])
                for one, (a, b, c) in zip(found.faces, mixed):
                    self.assertIn(one, ((a, b, c), (a, c, b)))
                self.assertEqual(faced(found), found)

    def test_twisted(self):
        rng = random.Random(8)
        for faces, many in ((PROJECTIVE_PLANE, 6), (torus_faces(3, 4, True), 12), (torus_faces(4, 3, True), 12)):
            for _ in range(15):
                mixed = self.mixed(rng, faces) + self.mixed(rng, [(a + many, b + many, c + many)
                                                                  for a, b, c in TETRAHEDRON.faces]) + [(0, 0, 1)]
                rng.shuffle(mixed)
                with self.assertRaises(Twisted) as held:
                    faced(Net(points_of(many + 4), mixed))
                self.check_ring(mixed, held.exception.faces)

    def check_ring(self, faces, ring):
        self.assertIsInstance(ring, list)
        same = 0
        for one, other in zip(ring, ring[1:] + ring[:1]):
            self.assertNotEqual(one, other)
            self.assertTrue(is_proper(faces[one]) and is_proper(faces[other]))
            shared, turned = neighbours(faces, one, other)
            self.assertTrue(shared or turned)
            self.assertFalse(shared and turned)
            same += shared
        self.assertEqual(same % 2, 1)


class CappedTest(unittest.TestCase):
    def test_one_hole(self):
        net = Net(points_of(4), TETRAHEDRON.faces[1:])
        self.assertEqual(open_edges(net), [(0, 1, 1), (0, 2, -1), (1, 2, 1)])
        self.assertEqual(capped(net), Net(points_of(4), TETRAHEDRON.faces[1:] + ((2, 1, 0),)))
        net = Net(points_of(4), [(a, c, b) for a, b, c in TETRAHEDRON.faces[1:]])
        self.assertEqual(capped(net).faces[3:], ((1, 2, 0),))

    def test_a_ring_of_five(self):
        net = Net(points_of(6), [(5, k, (k + 1) % 5) for k in range(5)])
        self.assertEqual(open_edges(net), [(0, 1, 1), (0, 4, -1), (1, 2, 1), (2, 3, 1), (3, 4, 1)])
        self.assertEqual(capped(net=net).faces[5:], ((2, 1, 0), (3, 2, 0), (4, 3, 0)))

    def test_two_rings(self):
        faces = [(2, 3, 5), (8, 7, 9)]
        net = Net(points_of(10), faces)
        self.assertEqual(capped(net).faces, ((2, 3, 5), (8, 7, 9), (5, 3, 2), (8, 9, 7)))

    def test_rings_with_one_corner_in_common_are_one(self):
        net = Net(points_of(10), [(2, 3, 5), (5, 7, 9)])
        self.assertEqual(open_edges(net), [(2, 3, 1), (2, 5, -1), (3, 5, 1), (5, 7, 1), (5, 9, -1), (7, 9, 1)])
        self.assertEqual(capped(net).faces[2:], ((5, 3, 2), (7, 5, 2), (5, 9, 2), (9, 7, 2)))

    def test_surpluses_above_one(self):
        net = Net(points_of(4), [(1, 2, 3)] * 3)
        self.assertEqual(capped(net).faces[3:], ((3, 2, 1),) * 3)
        net = Net(points_of(4), [(1, 3, 2)] * 2)
        self.assertEqual(capped(net).faces[2:], ((2, 3, 1),) * 2)
        net = Net(points_of(5), [(0, 1, 2)] * 2 + [(2, 1, 4)])
        self.assertEqual(open_edges(net), [(0, 1, 2), (0, 2, -2), (1, 2, 1), (1, 4, 1), (2, 4, -1)])
        self.assertEqual(capped(net).faces[3:], ((2, 1, 0), (4, 1, 0), (2, 4, 0)))

    def test_closed_nets_stay(self):
        self.assertEqual(capped(TETRAHEDRON), TETRAHEDRON)
        self.assertEqual(capped(Net([], [])), Net([], []))
        odd = Net(points_of(3), [(0, 0, 1), (1, 1, 1)])
        self.assertEqual(capped(odd), odd)

    def test_random_nets(self):
        for seed in range(80):
            rng = random.Random(seed)
            net = random_net(rng, 8, rng.randint(1, 9))
            before = Net(net.corners, net.faces)
            found = capped(net)
            self.assertTrue(is_closed(found))
            self.assertEqual(found.corners, net.corners)
            self.assertEqual(found.faces, net.faces + tuple(slow_caps(net)))
            self.assertEqual(capped(found), found)
            self.assertEqual(net, before)


def slow_caps(net):
    edges = open_edges(net)
    group = {k: {k} for edge in edges for k in edge[:2]}
    for _ in edges:
        for a, b, _ in edges:
            both = group[a] | group[b]
            for k in both:
                group[k] = both
    found = []
    for a, b, surplus in edges:
        c = min(group[a])
        for _ in range(abs(surplus)):
            if c not in (a, b):
                found.append((b, a, c) if surplus > 0 else (a, b, c))
    return found


class BoundsTest(unittest.TestCase):
    def test_volume_of_a_mended_solid(self):
        rng = random.Random(3)
        whole = box_net(0, 0, 0, 3, 3, 3)
        corners = [whole.corners[k] for face in whole.faces for k in face]
        loose = [(k, k + 1, k + 2) for k in range(0, len(corners), 3)]
        mixed = [loose[0]] + [rng.choice([(a, b, c), (a, c, b)]) for a, b, c in loose[1:]]
        found = faced(jointed(welded(Net(corners, mixed))))
        self.assertEqual(volume(found), (27, 1))
        self.assertEqual(Fraction(*volume(capped(Net(found.corners, found.faces[:-2])))), 27)


if __name__ == "__main__":
    unittest.main()
