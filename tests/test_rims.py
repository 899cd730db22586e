import random
import unittest

from mostlaid.errors import BadPoint
from mostlaid.feet import drawn_in
from mostlaid.measures import parts
from mostlaid.patches import dot, rectangle, segment
from mostlaid.rims import cells, rim, way
from mostlaid.rings import hull, of_rings
from mostlaid.sets import cut_out, joined, less, within

from tests.makers import random_shapes
from tests.reference import fraction, number, own_samples

HALF = (1, 2)


def n(a):
    return number(a)


def strokes(*listed):
    return [tuple(a if isinstance(a, tuple) else n(a) for a in stroke) for stroke in listed]


def wanted_rim(p):
    """The rim by the words of the document, from the set of the points that are not inside."""
    outer = cut_out(p, p)
    found = []
    for k, y in enumerate(p.levels):
        ends = []
        if k > 0:
            ends.extend(x for strip in p.bands[k - 1] for x in strip[2:])
        if k < len(p.bands):
            ends.extend(x for strip in p.bands[k] for x in strip[:2])
        found.extend((a, y, b, y) for a, b in outer.row_at(y) if not (a == b and a in ends))
        if k < len(p.bands):
            for a, b, c, d in p.bands[k]:
                high = p.levels[k + 1]
                found.append((a, y, c, high))
                if (a, c) != (b, d):
                    found.append((b, y, d, high))
    return found


class RimTest(unittest.TestCase):
    def test_the_example(self):
        p = drawn_in(of_rings([[(0, 0), (6, 0), (0, 6)]]), HALF, HALF)
        self.assertEqual(rim(p), strokes((HALF, HALF, (9, 2), HALF), (HALF, HALF, HALF, (9, 2)),
                                         ((9, 2), HALF, HALF, (9, 2))))

    def test_simple_patches(self):
        self.assertEqual(rim(joined()), [])
        self.assertEqual(rim(dot(1, 2)), strokes((1, 2, 1, 2)))
        self.assertEqual(rim(p=segment(3, 2, 1, 2)), strokes((1, 2, 3, 2)))
        self.assertEqual(rim(segment(3, 2, 1, 0)), strokes((1, 0, 3, 2)))
        self.assertEqual(rim(rectangle(0, 0, 2, 3)),
                         strokes((0, 0, 2, 0), (0, 0, 0, 3), (2, 0, 2, 3), (0, 3, 2, 3)))
        self.assertIsInstance(rim(joined()), list)

    def test_lone_things_and_seams(self):
        p = joined(rectangle(0, 0, 2, 2), segment(2, 1, 4, 1), segment(1, 2, 1, 3), dot(5, 1))
        self.assertEqual(rim(p), strokes(
            (0, 0, 2, 0), (0, 0, 0, 1), (2, 0, 2, 1), (2, 1, 4, 1), (5, 1, 5, 1), (0, 1, 0, 2), (2, 1, 2, 2),
            (0, 2, 2, 2), (1, 2, 1, 3)))
        self.assertEqual(rim(joined(rectangle(0, 0, 1, 2), rectangle(1, 0, 2, 2))), rim(rectangle(0, 0, 2, 2)))

    def test_a_point_stroke_beside_the_ends_of_sides(self):
        glass = joined(hull([(0, 0), (2, 0), (1, 1)]), hull([(0, 2), (2, 2), (1, 1)]))
        self.assertEqual(rim(glass), strokes((0, 0, 2, 0), (0, 0, 1, 1), (2, 0, 1, 1), (1, 1, 0, 2), (1, 1, 2, 2),
                                             (0, 2, 2, 2)))
        pinned = joined(glass, dot(3, 1))
        self.assertIn((n(3), n(1), n(3), n(1)), rim(pinned))
        self.assertNotIn((n(1), n(1), n(1), n(1)), rim(pinned))

    def test_a_pinhole_in_a_row(self):
        two = joined(rectangle(0, 0, 1, 1), rectangle(1, 1, 2, 2), rectangle(0, 1, 1, 2))
        self.assertEqual(rim(two), strokes((0, 0, 1, 0), (0, 0, 0, 1), (1, 0, 1, 1), (1, 1, 2, 1), (0, 1, 0, 2),
                                           (2, 1, 2, 2), (0, 2, 2, 2)))

    def test_a_frame(self):
        frame = less(rectangle(0, 0, 3, 3), rectangle(1, 1, 2, 2))
        self.assertEqual(rim(frame), strokes(
            (0, 0, 3, 0), (0, 0, 0, 1), (3, 0, 3, 1), (1, 1, 2, 1), (0, 1, 0, 2), (1, 1, 1, 2), (2, 1, 2, 2),
            (3, 1, 3, 2), (1, 2, 2, 2), (0, 2, 0, 3), (3, 2, 3, 3), (0, 3, 3, 3)))

    def test_random_patches(self):
        for seed in range(60):
            p = random_shapes(random.Random(seed), 6).patch
            got = rim(p)
            self.assertEqual(got, wanted_rim(p))
            self.assertEqual(joined(*[segment(*stroke) for stroke in got]), cut_out(p, p))


class CellsTest(unittest.TestCase):
    def test_a_few(self):
        self.assertEqual(cells(joined()), [])
        self.assertEqual(cells(dot(1, 2)), [("stretch", n(2), n(1), n(1))])
        self.assertEqual(cells(p=rectangle(0, 0, 2, 3)), [
            ("stretch", n(0), n(0), n(2)), ("strip", n(0), n(3), n(0), n(2), n(0), n(2)),
            ("stretch", n(3), n(0), n(2))])

    def test_the_order(self):
        p = joined(rectangle(0, 0, 1, 1), segment(3, 0, 2, 2), dot(5, 1))
        self.assertEqual(cells(p), [
            ("stretch", n(0), n(0), n(1)), ("stretch", n(0), n(3), n(3)),
            ("strip", n(0), n(1), n(0), n(1), n(0), n(1)), ("strip", n(0), n(1), n(3), n(3), (5, 2), (5, 2)),
            ("stretch", n(1), n(0), n(1)), ("stretch", n(1), (5, 2), (5, 2)), ("stretch", n(1), n(5), n(5)),
            ("strip", n(1), n(2), (5, 2), (5, 2), n(2), n(2)), ("stretch", n(2), n(2), n(2))])

    def test_random_patches(self):
        for seed in range(20):
            p = random_shapes(random.Random(seed), 6).patch
            wanted = []
            for k, y in enumerate(p.levels):
                wanted.extend(("stretch", y, a, b) for a, b in p.rows[k])
                if k < len(p.bands):
                    wanted.extend(("strip", y, p.levels[k + 1], *strip) for strip in p.bands[k])
            self.assertEqual(cells(p), wanted)


def touching(one, other):
    """Whether a strip touches a stretch, by the words of the document."""
    if one[0] == "stretch":
        one, other = other, one
    if one[0] != "strip" or other[0] != "stretch":
        return False
    _, y, a, b = other
    for height, low, high in ((one[1], one[3], one[4]), (one[2], one[5], one[6])):
        if y == height and fraction(a) <= fraction(low) and fraction(high) <= fraction(b):
            return True
    return False


def cell_of(listed, x, y):
    for k, cell in enumerate(listed):
        if cell[0] == "stretch" and cell[1] == y and fraction(cell[2]) <= fraction(x) <= fraction(cell[3]):
            return k
    for k, cell in enumerate(listed):
        if cell[0] == "strip" and fraction(cell[1]) < fraction(y) < fraction(cell[2]):
            low, high = fraction(cell[1]), fraction(cell[2])
            t = (fraction(y) - low) / (high - low)
            a, b, c, d = [fraction(v) for v in cell[3:]]
            if a + t * (c - a) <= fraction(x) <= b + t * (d - b):
                return k
    return None


def least_sequence(listed, begin, goal):
    """The least of the shortest sequences of cells, by trying all."""
    sequences = [[begin]]
    seen = {begin}
    while sequences:
        found = [sequence for sequence in sequences if sequence[-1] == goal]
        if found:
            return min(found)
        longer = [sequence + [k] for sequence in sequences for k in range(len(listed))
                  if k not in seen and touching(listed[sequence[-1]], listed[k])]
        seen.update(sequence[-1] for sequence in longer)
        best = {}
        for sequence in longer:
            if sequence[-1] not in best or sequence < best[sequence[-1]]:
                best[sequence[-1]] = sequence
        sequences = list(best.values())
    return None


def wanted_way(p, start, goal):
    if start == goal:
        return [start]
    if within(segment(*start, *goal), p):
        return [start, goal]
    listed = cells(p)
    sequence = least_sequence(listed, cell_of(listed, *start), cell_of(listed, *goal))
    if sequence is None:
        return None
    points = [start]
    for one, other in zip(sequence, sequence[1:]):
        strip, stretch = (listed[one], listed[other]) if listed[one][0] == "strip" else (listed[other], listed[one])
        low, high = strip[3:5] if stretch[1] == strip[1] else strip[5:7]
        points.append((n((fraction(low) + fraction(high)) / 2), stretch[1]))
    points.append(goal)
    return [z for k, z in enumerate(points) if k == 0 or points[k - 1] != z]


class WayTest(unittest.TestCase):
    def setUp(self):
        self.frame = less(rectangle(0, 0, 6, 6), rectangle(2, 2, 4, 4))

    def points(self, *listed):
        return [(n(x) if isinstance(x, int) else x, n(y) if isinstance(y, int) else y) for x, y in listed]

    def test_straight(self):
        self.assertEqual(way(self.frame, (0, 0), (6, 0)), self.points((0, 0), (6, 0)))
        self.assertEqual(way(self.frame, (6, 1), (0, 1)), self.points((6, 1), (0, 1)))
        self.assertEqual(way(self.frame, (0, 2), (6, 2)), self.points((0, 2), (6, 2)))
        self.assertEqual(way(p=self.frame, goal=(1, HALF), start=(HALF, 1)), [((1, 2), (1, 1)), ((1, 1), (1, 2))])
        self.assertEqual(way(segment(0, 0, 4, 4), (1, 1), (3, 3)), self.points((1, 1), (3, 3)))

    def test_start_equal_to_goal(self):
        self.assertEqual(way(self.frame, (1, 1), (1, 1)), self.points((1, 1)))
        self.assertEqual(way(self.frame, (1, (1, 1)), ((1, 1), 1)), self.points((1, 1)))
        self.assertEqual(way(dot(2, 3), (2, 3), (2, 3)), self.points((2, 3)))

    def test_through_doors(self):
        got = way(self.frame, (1, 3), (5, 3))
        self.assertEqual(got, self.points((1, 3), (1, 2), (5, 2), (5, 3)))
        self.assertEqual(way(self.frame, (1, 5), (5, 3)), wanted_way(self.frame, *self.points((1, 5), (5, 3))))
        corner = joined(rectangle(0, 0, 1, 4), rectangle(0, 0, 4, 1))
        self.assertEqual(way(corner, (0, 4), (4, 0)), self.points((0, 4), (HALF, 4), (HALF, 1), (2, 1), (2, 0), (4, 0)))
        self.assertEqual(way(corner, (HALF, 4), (4, HALF)), self.points((HALF, 4), (HALF, 1), (2, 1), (4, HALF)))

    def test_the_least_list_among_several(self):
        self.assertEqual(way(self.frame, (1, 3), (5, 3)), self.points((1, 3), (1, 2), (5, 2), (5, 3)))
        diamond = joined(segment(0, 0, -2, 2), segment(0, 0, 2, 2), segment(-2, 2, 0, 4), segment(2, 2, 0, 4))
        self.assertEqual(way(diamond, (0, 0), (0, 4)), self.points((0, 0), (-2, 2), (0, 4)))
        self.assertEqual(way(diamond, (0, 4), (0, 0)), self.points((0, 4), (-2, 2), (0, 0)))
        self.assertEqual(way(diamond, (-2, 2), (2, 2)), self.points((-2, 2), (0, 0), (2, 2)))

    def test_the_fewest_cells_go_first(self):
        low = joined(segment(0, 0, 0, 2), segment(4, 0, 4, 2), segment(0, 2, 4, 2), segment(0, 0, 1, -1),
                     segment(1, -1, 3, -1), segment(3, -1, 4, 0), dot(9, -5))
        self.assertEqual(way(low, (0, 0), (4, 0)), wanted_way(low, *self.points((0, 0), (4, 0))))
        far = joined(low, dot(-9, 1))
        self.assertEqual(way(far, (0, 0), (4, 0)), self.points((0, 0), (1, -1), (3, -1), (4, 0)))

    def test_none_between_parts(self):
        p = joined(self.frame, dot(3, 3), segment(7, 0, 7, 6))
        for start, goal in (((3, 3), (0, 0)), ((0, 0), (3, 3)), ((7, 1), (6, 1)), ((6, 6), (7, 6))):
            self.assertIsNone(way(p, start, goal))
        self.assertEqual(way(p, (7, 1), (7, (11, 2))), [(n(7), n(1)), (n(7), (11, 2))])

    def test_bad_points(self):
        p = self.frame
        for start, goal, wrong in [((3, 3), (0, 0), (3, 3)), ((0, 0), (3, 3), (3, 3)), ((9, 9), (3, 3), (9, 9)),
                                   ((3, (7, 2)), (3, 3), (3, (7, 2))), ((9, 9), (9, 9), (9, 9))]:
            with self.assertRaises(BadPoint) as held:
                way(p, start, goal)
            self.assertEqual(held.exception.point, wrong)
            self.assertIs(held.exception.point, start if wrong == start else goal)
        with self.assertRaises(BadPoint) as held:
            way(joined(), (0, 0), (1, 1))
        self.assertEqual(held.exception.point, (0, 0))
        with self.assertRaises(BadPoint) as held:
            way(joined(dot(0, 0), dot(1, 1)), (0, 0), (2, 1))
        self.assertEqual(held.exception.point, (2, 1))

    def test_random_patches(self):
        for seed in range(60):
            rng = random.Random(seed)
            p = random_shapes(rng, 7).patch
            points = [(n(x), n(y)) for x, y in own_samples(p)]
            for _ in range(6):
                start, goal = rng.choice(points), rng.choice(points)
                got = way(p, start, goal)
                self.assertEqual(got, wanted_way(p, start, goal))
                holding = [part for part in parts(p) if start in part]
                self.assertEqual(got is None, goal not in holding[0])
                for one, other in zip(got or [], (got or [])[1:]):
                    self.assertTrue(within(segment(*one, *other), p))


if __name__ == "__main__":
    unittest.main()
