import random
import unittest
from fractions import Fraction

from mostlaid.measures import box, first_point, moved, parts, size, turned
from mostlaid.patches import dot, rectangle, segment
from mostlaid.rings import hull, of_rings
from mostlaid.sets import common, joined, less

from tests.makers import random_shapes
from tests.reference import area_of, corners_around, form_faults, fraction, number, piece_patch


def n(a):
    return number(a)


def area_of_corners(corners):
    total = sum(corners[k - 1][0] * corners[k][1] - corners[k][0] * corners[k - 1][1] for k in range(len(corners)))
    return Fraction(total) / 2


class MeasuresTest(unittest.TestCase):
    def setUp(self):
        self.frame = less(rectangle(0, 0, 6, 6), rectangle(1, 1, 5, 5))
        self.mixed = joined(rectangle(0, 0, 2, 2), segment(2, 1, 4, 3), dot(7, (-1, 2)), segment(-1, 5, 3, 5))

    def test_size(self):
        for p, wanted in [(joined(), 0), (dot(1, 1), 0), (segment(0, 0, 3, 4), 0), (rectangle(0, 0, 3, 4), 12),
                          (self.frame, 20), (self.mixed, 4), (hull([(0, 0), (3, 0), (0, 5)]), Fraction(15, 2)),
                          (rectangle((1, 3), (1, 5), (1, 2), (1, 2)), Fraction(1, 20))]:
            self.assertEqual(size(p), n(wanted))
        self.assertEqual(size(p=rectangle(0, 0, 1, 1)), (1, 1))

    def test_size_of_random_patches(self):
        rng = random.Random(5)
        for _ in range(40):
            shapes = random_shapes(rng, 5)
            self.assertEqual(fraction(size(shapes.patch)), area_of(shapes.patch))
            corners = corners_around([(Fraction(rng.randint(-9, 9)), Fraction(rng.randint(-9, 9))) for _ in range(6)])
            self.assertEqual(fraction(size(piece_patch(corners))), area_of_corners(corners))

    def test_box_and_first_point(self):
        for p, wanted, first in [
                (dot(1, 2), (1, 2, 1, 2), (1, 2)), (segment(3, 4, 1, 6), (1, 4, 3, 6), (3, 4)),
                (segment(5, 4, 1, 4), (1, 4, 5, 4), (1, 4)), (self.frame, (0, 0, 6, 6), (0, 0)),
                (self.mixed, (-1, Fraction(-1, 2), 7, 5), (7, Fraction(-1, 2))),
                (hull([(2, 0), (0, 3), (5, 1)]), (0, 0, 5, 3), (2, 0)),
                (joined(dot(4, 1), dot(2, 1)), (2, 1, 4, 1), (2, 1))]:
            self.assertEqual(box(p), tuple(n(a) for a in wanted))
            self.assertEqual(first_point(p), tuple(n(a) for a in first))
        self.assertIsNone(box(joined()))
        self.assertIsNone(first_point(joined()))
        self.assertEqual(box(p=dot(0, 0)), ((0, 1),) * 4)
        self.assertEqual(first_point(p=dot(0, 0)), ((0, 1),) * 2)

    def test_parts(self):
        self.assertEqual(parts(joined()), [])
        self.assertEqual(parts(dot(0, 0)), [dot(0, 0)])
        self.assertEqual(parts(self.frame), [self.frame])
        bar, house = segment(-1, 5, 3, 5), joined(rectangle(0, 0, 2, 2), segment(2, 1, 4, 3))
        got = parts(p=self.mixed)
        self.assertIsInstance(got, list)
        self.assertEqual(got, [dot(7, (-1, 2)), house, bar])
        for part in got:
            self.assertEqual(form_faults(part), [])

    def test_parts_with_a_common_point_are_one(self):
        for one in (joined(rectangle(0, 0, 1, 1), rectangle(1, 1, 2, 2)),
                    joined(rectangle(0, 1, 1, 2), rectangle(1, 0, 2, 1)),
                    joined(segment(0, 0, 2, 2), segment(0, 2, 2, 0)), joined(segment(0, 0, 2, 2), dot(1, 1)),
                    joined(rectangle(0, 0, 1, 1), segment(1, (1, 2), 3, 5)),
                    joined(hull([(0, 0), (2, 0), (1, 1)]), hull([(0, 2), (2, 2), (1, 1)]))):
            self.assertEqual(parts(one), [one])
        apart = [rectangle(0, 0, 1, 1), rectangle((101, 100), 0, 2, 1)]
        self.assertEqual(parts(joined(*apart)), apart)

    def test_a_part_within_the_hole_of_another(self):
        core = rectangle(2, 2, 4, 4)
        self.assertEqual(parts(joined(core, self.frame)), [self.frame, core])
        low = joined(dot(3, -1), self.frame, core)
        self.assertEqual(parts(low), [dot(3, -1), self.frame, core])

    def test_the_order_of_parts(self):
        dots = [dot(x, y) for y in (-1, 0, 2) for x in (-3, 0, 1)]
        self.assertEqual(parts(joined(*dots[::-1])), dots)
        late = joined(segment(0, 0, 0, 4), segment(1, 3, 3, (-1, 2)), segment(-2, 4, -1, 0))
        self.assertEqual(parts(late), [segment(1, 3, 3, (-1, 2)), segment(-2, 4, -1, 0), segment(0, 0, 0, 4)])

    def test_parts_of_random_patches(self):
        for seed in range(40):
            p = random_shapes(random.Random(seed), 7).patch
            got = parts(p)
            self.assertEqual(joined(*got), p)
            firsts = [tuple(fraction(a) for a in first_point(part)[::-1]) for part in got]
            self.assertEqual(firsts, sorted(firsts))
            for k, part in enumerate(got):
                self.assertEqual(form_faults(part), [])
                self.assertEqual(parts(part), [part])
                for other in got[:k]:
                    self.assertFalse(common(part, other))

    def test_moved(self):
        self.assertEqual(moved(rectangle(0, 0, 1, 1), 2, (1, 2)), rectangle(2, (1, 2), 3, (3, 2)))
        self.assertEqual(moved(joined(), 1, 1), joined())
        self.assertEqual(moved(p=dot(1, 1), dy=-1, dx=(-1, 2)), dot((1, 2), 0))
        got = moved(self.mixed, 1, -1)
        self.assertEqual(got, joined(rectangle(1, -1, 3, 1), segment(3, 0, 5, 2), dot(8, (-3, 2)), segment(0, 4, 4, 4)))
        self.assertEqual(form_faults(got), [])
        self.assertEqual(moved(got, (-1, 1), 1), self.mixed)

    def test_turned(self):
        self.assertEqual(turned(rectangle(0, 1, 2, 5)), rectangle(1, 0, 5, 2))
        self.assertEqual(turned(dot(1, 2)), dot(2, 1))
        self.assertEqual(turned(segment(0, 1, 4, 1)), segment(1, 0, 1, 4))
        self.assertEqual(turned(joined()), joined())
        self.assertEqual(turned(p=self.frame), self.frame)
        self.assertEqual(turned(self.mixed), joined(rectangle(0, 0, 2, 2), segment(1, 2, 3, 4), dot((-1, 2), 7),
                                                    segment(5, -1, 5, 3)))
        self.assertEqual(turned(of_rings([[(0, 0), (6, 0), (1, 3)]])), of_rings([[(0, 0), (0, 6), (3, 1)]]))

    def test_turned_random_patches(self):
        for seed in range(25):
            shapes = random_shapes(random.Random(seed), 6)
            pieces = [[(y, x) for x, y in piece] for piece in shapes.pieces]
            got = turned(shapes.patch)
            self.assertEqual(form_faults(got), [])
            self.assertEqual(got, joined(*[piece_patch(corners_around(piece)) for piece in pieces]))
            self.assertEqual(turned(got), shapes.patch)
            self.assertEqual(size(got), size(shapes.patch))


if __name__ == "__main__":
    unittest.main()
