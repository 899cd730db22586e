import random
import unittest
from fractions import Fraction

from mostlaid.patches import Patch, dot, rectangle, segment
from mostlaid.rings import hull, of_rings
from mostlaid.sets import joined

from tests.cases import PatchCase
from tests.makers import random_shapes
from tests.reference import (directions_of, form_faults, fraction, has, has_inside, inside, number, own_samples,
                             samples)


def n(a):
    return number(a)


class FormTest(PatchCase):
    def test_dot(self):
        self.shows(dot(3, -2), [-2], [[(3, 3)]], [])
        half = Fraction(1, 2)
        self.shows(dot((1, 2), (-1, 2)), [-half], [[(half, half)]], [])

    def test_segment(self):
        self.shows(segment(0, 0, 2, 4), [0, 4], [[(0, 0)], [(2, 2)]], [[(0, 0, 2, 2)]])
        self.shows(segment(2, 4, 0, 0), [0, 4], [[(0, 0)], [(2, 2)]], [[(0, 0, 2, 2)]])
        self.shows(segment(0, 4, 2, 0), [0, 4], [[(2, 2)], [(0, 0)]], [[(2, 2, 0, 0)]])
        self.shows(segment(5, 1, 2, 1), [1], [[(2, 5)]], [])
        self.shows(segment(2, 1, 5, 1), [1], [[(2, 5)]], [])
        self.shows(segment(2, 1, 2, 5), [1, 5], [[(2, 2)], [(2, 2)]], [[(2, 2, 2, 2)]])
        self.shows(segment((1, 2), 1, (1, 2), 1), [1], [[(Fraction(1, 2), Fraction(1, 2))]], [])
        self.assertEqual(segment(3, 4, 3, 4), dot(3, 4))

    def test_rectangle(self):
        self.shows(rectangle(0, 0, 2, 2), [0, 2], [[(0, 2)], [(0, 2)]], [[(0, 2, 0, 2)]])
        self.shows(rectangle((-1, 2), -1, (7, 3), 5), [-1, 5], [[(Fraction(-1, 2), Fraction(7, 3))]] * 2,
                   [[(Fraction(-1, 2), Fraction(7, 3)) * 2]])
        self.shows(rectangle(1, 0, 1, 2), [0, 2], [[(1, 1)], [(1, 1)]], [[(1, 1, 1, 1)]])
        self.shows(rectangle(1, 2, 4, 2), [2], [[(1, 4)]], [])
        self.shows(rectangle(1, 2, 1, 2), [2], [[(1, 1)]], [])

    def test_by_name(self):
        self.assertEqual(dot(y=2, x=1), dot(1, 2))
        self.assertEqual(segment(y1=4, x1=3, y0=2, x0=1), segment(1, 2, 3, 4))
        self.assertEqual(rectangle(y1=4, x1=3, y0=2, x0=1), rectangle(1, 2, 3, 4))

    def test_a_triangle_and_an_hourglass(self):
        self.shows(hull([(0, 0), (2, 0), (0, 2)]), [0, 2], [[(0, 2)], [(0, 0)]], [[(0, 2, 0, 0)]])
        glass = joined(hull([(0, 0), (2, 0), (1, 1)]), hull([(0, 2), (2, 2), (1, 1)]))
        self.shows(glass, [0, 1, 2], [[(0, 2)], [(1, 1)], [(0, 2)]], [[(0, 2, 1, 1)], [(1, 1, 0, 2)]])

    def test_two_segments_that_cross(self):
        cross = joined(segment(0, 0, 2, 2), segment(0, 2, 2, 0))
        self.shows(cross, [0, 1, 2], [[(0, 0), (2, 2)], [(1, 1)], [(0, 0), (2, 2)]],
                   [[(0, 0, 1, 1), (2, 2, 1, 1)], [(1, 1, 0, 0), (1, 1, 2, 2)]])

    def test_an_empty_band(self):
        two = joined(dot(0, 0), rectangle(1, 2, 2, 3))
        self.shows(two, [0, 2, 3], [[(0, 0)], [(1, 2)], [(1, 2)]], [[], [(1, 2, 1, 2)]])

    def test_a_level_where_a_point_or_a_stretch_stands_beside(self):
        beside = joined(rectangle(0, 0, 1, 2), dot(3, 1))
        self.shows(beside, [0, 1, 2], [[(0, 1)], [(0, 1), (3, 3)], [(0, 1)]], [[(0, 1, 0, 1)], [(0, 1, 0, 1)]])
        across = joined(rectangle(0, 0, 1, 2), segment(0, 1, 3, 1))
        self.shows(across, [0, 1, 2], [[(0, 1)], [(0, 3)], [(0, 1)]], [[(0, 1, 0, 1)], [(0, 1, 0, 1)]])

    def test_strips_that_touch_at_a_level(self):
        touching = joined(hull([(0, 0), (1, 1), (0, 1)]), hull([(2, 0), (1, 1), (2, 1)]), segment(1, 1, 1, 2))
        self.shows(touching, [0, 1, 2], [[(0, 0), (2, 2)], [(0, 2)], [(1, 1)]],
                   [[(0, 0, 0, 1), (2, 2, 1, 2)], [(1, 1, 1, 1)]])

    def test_the_same_set_on_other_roads(self):
        square = rectangle(0, 0, 4, 4)
        roads = [
            joined(rectangle(0, 0, 4, 2), rectangle(0, 2, 4, 4)),
            joined(rectangle(0, 0, 2, 4), rectangle(2, 0, 4, 4)),
            joined(*[rectangle(x, y, x + 1, y + 1) for x in range(4) for y in range(4)]),
            joined(rectangle(0, 0, 4, 3), hull([(0, 1), (4, 1), (4, 4), (0, 4)]), segment(0, 0, 4, 4), dot(2, 2)),
            hull([(4, 4), (0, 0), (4, 0), (0, 4), (2, 2), (1, 4)]),
            of_rings([[(0, 0), (4, 0), (4, 4), (0, 4)]]),
            joined(hull([(0, 0), (4, 0), (0, 4)]), hull([(4, 4), (4, 0), (0, 4)])),
        ]
        for road in roads:
            self.shows(road, [0, 4], [[(0, 4)], [(0, 4)]], [[(0, 4, 0, 4)]])
            self.assertEqual(road, square)
        long = segment(0, 0, 6, 3)
        self.assertEqual(joined(segment(0, 0, 2, 1), segment(1, (1, 2), 6, 3)), long)
        self.assertEqual(joined(segment(0, 0, 2, 0), segment(5, 0, 1, 0)), segment(0, 0, 5, 0))

    def test_the_form_of_random_patches(self):
        for seed in range(25):
            rng = random.Random(seed)
            pieces = random_shapes(rng, 6).pieces
            again = [type(self).reordered(rng, piece) for piece in pieces]
            rng.shuffle(again)
            one = joined(*[hull([(n(x), n(y)) for x, y in piece]) for piece in pieces])
            other = joined(*[hull([(n(x), n(y)) for x, y in piece]) for piece in again])
            self.assertEqual(form_faults(one), [])
            self.assertEqual((one.levels, one.rows, one.bands), (other.levels, other.rows, other.bands))

    @staticmethod
    def reordered(rng, piece):
        points = list(piece) + [rng.choice(piece)]
        rng.shuffle(points)
        return points


class PatchTest(unittest.TestCase):
    def setUp(self):
        self.triangle = hull([(0, 0), (4, 0), (0, 4)])
        self.mixed = joined(rectangle(0, 0, 2, 2), segment(2, 1, 4, 3), dot(5, 5), segment(0, 2, 0, 6))

    def test_row_at(self):
        rows = [(-1, ()), (0, ((0, 4),)), (1, ((0, 3),)), ((1, 2), ((0, Fraction(7, 2)),)), (4, ((0, 0),)), (5, ()),
                ((-1, 100), ()), ((401, 100), ())]
        for y, row in rows:
            got = self.triangle.row_at(y)
            self.assertIsInstance(got, tuple)
            self.assertEqual(got, tuple((n(a), n(b)) for a, b in row))
        self.assertEqual(self.triangle.row_at(y=(1, 1)), (((0, 1), (3, 1)),))
        third = self.mixed.row_at((3, 2))
        self.assertEqual(third, (((0, 1), (2, 1)), ((5, 2), (5, 2))))
        self.assertEqual(self.mixed.row_at(1), (((0, 1), (2, 1)),))
        self.assertEqual(self.mixed.row_at(5), (((0, 1), (0, 1)), ((5, 1), (5, 1))))
        self.assertEqual(self.mixed.row_at((11, 2)), (((0, 1), (0, 1)),))
        self.assertEqual(joined(dot(0, 0), dot(0, 2)).row_at(1), ())
        self.assertEqual(joined().row_at(0), ())

    def test_has_and_in(self):
        inside_points = [(0, 0), (1, 1), (2, 1), (2, 2), (3, 2), ((7, 2), (5, 2)), (5, 5), (0, 4), (4, 3)]
        others = [(-1, 0), (3, 1), ((5, 2), 1), (5, (9, 2)), (5, 6), (4, 5), (0, 7), (1, 3), ((1, 10), 3),
                  (4, (31, 10))]
        for x, y in inside_points:
            self.assertIs(self.mixed.has(x, y), True)
            self.assertIs((x, y) in self.mixed, True)
        for x, y in others:
            self.assertIs(self.mixed.has(x, y), False)
            self.assertIs((x, y) in self.mixed, False)
        self.assertIs(self.mixed.has(y=1, x=2), True)
        self.assertIs(joined().has(0, 0), False)

    def test_has_inside(self):
        for x, y in [(1, 1), ((1, 100), (1, 100)), ((199, 100), 1)]:
            self.assertIs(self.mixed.has_inside(x, y), True)
        for x, y in [(0, 0), (1, 0), (0, 1), (2, 1), (3, 2), (5, 5), (0, 4), (1, 2), (7, 7), (0, 2)]:
            self.assertIs(self.mixed.has_inside(x, y), False)
        self.assertIs(self.mixed.has_inside(y=1, x=1), True)
        self.assertIs(joined().has_inside(0, 0), False)

    def test_inside_at_a_level(self):
        stairs = joined(rectangle(0, 0, 4, 2), rectangle(1, 2, 2, 4), rectangle(3, 2, 5, 4))
        for x, wanted in [((1, 2), False), (1, False), ((3, 2), True), (2, False), ((5, 2), False), (3, False),
                          ((7, 2), True), (4, False), ((9, 2), False)]:
            self.assertIs(stairs.has_inside(x, 2), wanted)
        pinched = joined(hull([(0, 0), (2, 0), (1, 1)]), hull([(0, 2), (2, 2), (1, 1)]))
        self.assertIs(pinched.has_inside(1, 1), False)
        holed = joined(rectangle(0, 0, 3, 1), rectangle(0, 0, 1, 3), rectangle(2, 0, 3, 3), rectangle(0, 2, 3, 3))
        self.assertIs(holed.has_inside((3, 2), (3, 2)), False)
        self.assertIs(holed.has_inside((1, 2), 1), True)
        self.assertIs(holed.has_inside((3, 2), 1), False)

    def test_points_of_random_patches(self):
        for seed in range(12):
            shapes = random_shapes(random.Random(100 + seed))
            ways = directions_of(shapes.sides())
            within = inside(shapes.has, ways)
            for z in samples(shapes.sides(), ways) + own_samples(shapes.patch):
                self.assertEqual(has(shapes.patch, z), shapes.has(z))
                self.assertEqual(has_inside(shapes.patch, z), within(z))

    def test_strips(self):
        self.assertEqual(rectangle(0, 0, 2, 2).strips(), [((0, 1), (2, 1), ((0, 1), (2, 1), (0, 1), (2, 1)))])
        for p in (joined(), dot(1, 1), segment(0, 0, 3, 0)):
            self.assertEqual(p.strips(), [])
        wanted = [(low, high, strip) for low, high, band in zip(self.mixed.levels, self.mixed.levels[1:],
                                                                self.mixed.bands) for strip in band]
        got = self.mixed.strips()
        self.assertIsInstance(got, list)
        self.assertEqual(got, wanted)
        self.assertIn(((5, 1), (6, 1), ((0, 1),) * 4), got)
        got.append(1)
        self.assertEqual(self.mixed.strips(), wanted)

    def test_equal(self):
        square = rectangle(0, 0, 1, 1)
        self.assertTrue(square == rectangle((0, 1), 0, 1, (1, 1)))
        self.assertFalse(square != rectangle(0, 0, 1, 1))
        self.assertTrue(joined() == joined())
        for other in (rectangle(0, 0, 1, 2), joined(), dot(0, 0), None, 1, "patch", (), [], square.levels,
                      (square.levels, square.rows, square.bands)):
            self.assertFalse(square == other)
            self.assertTrue(square != other)
            self.assertFalse(other == square)
        self.assertFalse(joined() == ())
        self.assertFalse(segment(0, 0, 0, 2) == joined(dot(0, 0), dot(0, 2)))
        self.assertFalse(rectangle(0, 0, 1, 2) == joined(segment(0, 0, 1, 0), segment(0, 2, 1, 2)))
        self.assertFalse(joined(square, dot(5, (1, 2))) == joined(square, dot(6, (1, 2))))
        self.assertFalse(segment(0, 0, 1, 1) == segment(0, 0, 1, 2))
        self.assertFalse(hull([(0, 0), (2, 0), (2, 2)]) == hull([(0, 0), (2, 0), (0, 2)]))

    def test_truth(self):
        self.assertIs(bool(dot(0, 0)), True)
        self.assertIs(bool(rectangle(0, 0, 1, 1)), True)
        self.assertIs(bool(joined()), False)
        empty = joined()
        self.assertEqual((empty.levels, empty.rows, empty.bands), ((), (), ()))

    def test_repr(self):
        self.assertEqual(repr(joined()), "Patch(0 levels)")
        self.assertEqual(repr(dot(0, 0)), "Patch(1 levels)")
        self.assertEqual(repr(rectangle(0, 0, 1, 1)), "Patch(2 levels)")
        self.assertEqual(repr(joined(dot(0, 0), dot(0, 1), dot(0, 2))), "Patch(3 levels)")

    def test_methods_stand_in_the_class(self):
        for name in ("row_at", "has", "has_inside", "strips"):
            self.assertIn(name, vars(Patch))

    def test_rows_between_levels(self):
        p = hull([(0, 0), (7, 3), (1, 5), (-2, 2)])
        for k in range(1, 40):
            y = Fraction(k, 8)
            for a, b in p.row_at(n(y)):
                self.assertTrue(p.has(a, n(y)) and p.has(b, n(y)))
                self.assertFalse(p.has(n(fraction(a) - Fraction(1, 10 ** 9)), n(y)))
                self.assertFalse(p.has(n(fraction(b) + Fraction(1, 10 ** 9)), n(y)))


if __name__ == "__main__":
    unittest.main()
