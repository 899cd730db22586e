import random
import unittest
from fractions import Fraction

from mostlaid.feet import drawn_in, grown, off
from mostlaid.measures import size, turned
from mostlaid.patches import dot, rectangle, segment
from mostlaid.rings import hull, of_rings
from mostlaid.sets import common, cut_out, full, insides_meet, joined, less, within

from tests.cases import PatchCase
from tests.makers import random_shapes
from tests.reference import (NEAR, corners_around, directions_of, form_faults, fraction, has, has_inside, in_convex,
                             near, number, own_samples, piece_patch)

HALF = (1, 2)


def n(a):
    return number(a)


def foot_at(z, h, v):
    """The rectangle at a place."""
    h, v = fraction(h), fraction(v)
    return rectangle(n(z[0] - h), n(z[1] - v), n(z[0] + h), n(z[1] + v))


def places_around(p, sides, h, v):
    """Places at and near all ends and middles of a patch, and near those of the sides shifted by half widths."""
    ways = directions_of(sides)[::3] + [(1, 0), (0, 1), (-1, 0), (0, -1), (1, 1), (-1, 1), (1, -1), (-1, -1)]
    found = list(own_samples(p))
    h, v = fraction(h), fraction(v)
    corners = {end for side in sides for end in side}
    ends = found + [(x + i * h, y + j * v) for x, y in sorted(corners) for i in (-1, 1) for j in (-1, 1)]
    for z in ends[::2]:
        found.extend(near(z, ways, NEAR))
    return found + ends


class ExamplesTest(PatchCase):
    def test_drawn_in_of_a_bar(self):
        half = Fraction(1, 2)
        self.shows(drawn_in(rectangle(0, 0, 4, 1), HALF, HALF), [half], [[(half, Fraction(7, 2))]], [])
        self.shows(drawn_in(rectangle(0, 0, 1, 4), HALF, HALF), [half, Fraction(7, 2)], [[(half, half)]] * 2,
                   [[(half, half, half, half)]])
        self.shows(drawn_in(rectangle(0, 0, 1, 1), HALF, HALF), [half], [[(half, half)]], [])

    def test_a_foot_between_two_squares(self):
        stuff = joined(rectangle(0, 0, 1, 1), rectangle(2, 0, 3, 1))
        p = rectangle(1, 0, 2, 1)
        x = Fraction(3, 2)
        self.shows(off(p, stuff, HALF, HALF), [0, 1], [[(x, x)], [(x, x)]], [[(x, x, x, x)]])
        self.assertIs(within(p, grown(stuff, HALF, HALF)), True)

    def test_the_triangle(self):
        slice_of = of_rings([[(0, 0), (6, 0), (0, 6)]])
        places = drawn_in(slice_of, HALF, HALF)
        self.assertEqual(places, of_rings([[(HALF, HALF), ((9, 2), HALF), (HALF, (9, 2))]]))
        body = grown(places, HALF, HALF)
        self.assertEqual(body, of_rings([[(0, 0), (5, 0), (5, 1), (1, 5), (0, 5)]]))
        self.assertEqual(size(body), (17, 1))

    def test_by_name(self):
        p = rectangle(0, 0, 4, 3)
        self.assertEqual(grown(v=2, h=1, p=p), rectangle(-1, -2, 5, 5))
        self.assertEqual(drawn_in(v=HALF, h=1, p=p), rectangle(1, HALF, 3, (5, 2)))
        self.assertEqual(off(v=HALF, h=1, stuff=rectangle(3, 0, 9, 9), p=p), rectangle(0, 0, 2, 3))


class GrownTest(unittest.TestCase):
    def test_points_and_segments(self):
        self.assertEqual(grown(dot(1, 2), HALF, 1), rectangle(HALF, 1, (3, 2), 3))
        self.assertEqual(grown(segment(0, 0, 4, 0), HALF, HALF), rectangle((-1, 2), (-1, 2), (9, 2), HALF))
        self.assertEqual(grown(segment(0, 0, 0, 4), HALF, 1), rectangle((-1, 2), -1, HALF, 5))
        self.assertEqual(grown(segment(0, 0, 4, 4), 1, 1),
                         hull([(-1, -1), (1, -1), (5, 3), (5, 5), (3, 5), (-1, 1)]))
        self.assertEqual(grown(segment(0, 4, 4, 0), 1, 2),
                         hull([(-1, 6), (-1, 2), (3, -2), (5, -2), (5, 2), (1, 6)]))

    def test_by_zero(self):
        p = joined(hull([(0, 0), (4, 1), (2, 5)]), segment(4, 1, 7, 1), dot(9, 9), segment(5, 5, 6, 7))
        self.assertEqual(grown(p, 0, 0), p)
        self.assertEqual(grown(p, (0, 1), 0), p)
        self.assertEqual(grown(dot(1, 1), 2, 0), segment(-1, 1, 3, 1))
        self.assertEqual(grown(dot(1, 1), 0, 2), segment(1, -1, 1, 3))
        self.assertEqual(grown(segment(0, 0, 2, 2), 1, 0), hull([(-1, 0), (1, 0), (3, 2), (1, 2)]))
        self.assertEqual(grown(segment(0, 0, 2, 2), 0, 1), hull([(0, -1), (0, 1), (2, 3), (2, 1)]))
        self.assertEqual(grown(segment(0, 0, 2, 0), 1, 0), segment(-1, 0, 3, 0))
        self.assertEqual(grown(rectangle(0, 0, 1, 1), 1, 0), rectangle(-1, 0, 2, 1))
        self.assertEqual(grown(joined(dot(0, 0), dot(1, 0)), HALF, 0), segment((-1, 2), 0, (3, 2), 0))

    def test_the_empty_patch(self):
        for act in (grown, drawn_in):
            got = act(joined(), 1, 1)
            self.assertEqual((got.levels, got.rows, got.bands), ((), (), ()))
        self.assertEqual(off(joined(), rectangle(0, 0, 1, 1), 1, 1), joined())
        self.assertEqual(off(rectangle(0, 0, 1, 1), joined(), 1, 1), rectangle(0, 0, 1, 1))

    def test_a_hole_is_filled(self):
        frame = less(rectangle(0, 0, 6, 6), rectangle(2, 2, 4, 4))
        self.assertEqual(grown(frame, 1, 1), rectangle(-1, -1, 7, 7))
        self.assertEqual(grown(frame, 1, (1, 4)), rectangle(-1, (-1, 4), 7, (25, 4)))
        self.assertEqual(grown(frame, (99, 100), (1, 4)),
                         less(rectangle((-99, 100), (-1, 4), (699, 100), (25, 4)),
                              rectangle((299, 100), (9, 4), (301, 100), (15, 4))))

    def test_random_patches(self):
        for seed in range(30):
            rng = random.Random(seed)
            shapes = random_shapes(rng, 4)
            h, v = rng.choice([(1, 2), 0, 1, (7, 3)]), rng.choice([(1, 2), 0, 1, 3])
            got = grown(shapes.patch, h, v)
            self.assertEqual(form_faults(got), [])
            wide, high = fraction(h), fraction(v)
            covers = [corners_around([(x + i * wide, y + j * high) for x, y in piece for i in (-1, 1) for j in (-1, 1)])
                      for piece in shapes.pieces]
            self.assertEqual(got, joined(*[piece_patch(cover) for cover in covers]))
            for z in own_samples(got):
                self.assertTrue(any(in_convex(cover, z) for cover in covers))
                self.assertTrue(common(foot_at(z, h, v), shapes.patch))


class DrawnInTest(unittest.TestCase):
    def test_passages(self):
        for wide, wanted in (((1, 1), segment((7, 2), 1, (7, 2), 3)), ((99, 100), joined()),
                             ((101, 100), rectangle((7, 2), 1, (351, 100), 3))):
            width = number(fraction(3) + fraction(wide))
            dumbbell = joined(rectangle(0, -4, 9, 0), rectangle(3, 0, width, 4), rectangle(0, 4, 9, 8))
            places = drawn_in(dumbbell, HALF, HALF)
            passage = common(places, rectangle(0, 1, 9, 3))
            self.assertEqual(passage, wanted)

    def test_a_passage_of_points(self):
        corner = joined(rectangle(0, 0, 2, 2), rectangle(1, 1, 3, 3))
        self.assertEqual(drawn_in(corner, HALF, HALF), joined(rectangle(HALF, HALF, (3, 2), (3, 2)),
                                                              rectangle((3, 2), (3, 2), (5, 2), (5, 2))))
        posts = joined(rectangle(0, 0, 1, 1), rectangle(2, 0, 3, 1), rectangle(4, 0, (499, 100), 1))
        self.assertEqual(drawn_in(posts, HALF, HALF), joined(dot(HALF, HALF), dot((5, 2), HALF)))

    def test_far_too_large_half_widths(self):
        p = hull([(0, 0), (4, 0), (0, 4)])
        for h, v in ((1000, 1000), (1000, HALF), (HALF, 1000), (2, 2), (2, HALF), ((401, 200), (1, 100))):
            self.assertEqual(drawn_in(p, h, v), joined())
        self.assertEqual(drawn_in(p, 1, 1), dot(1, 1))
        self.assertEqual(drawn_in(p, (101, 100), 1), joined())
        self.assertEqual(drawn_in(p, (3, 2), HALF), dot((3, 2), HALF))
        self.assertEqual(off(p, dot(1, 1), 1000, 1000), p)
        self.assertEqual(off(p, rectangle(900, 900, 901, 901), 1000, 1000), joined())
        top = hull([(0, 2), (2, 2), (0, 4)])
        self.assertEqual(off(p, rectangle(1000, 0, 1001, 1), 1000, 1), joined(segment(0, 0, 0, 2), top))
        self.assertEqual(off(p, rectangle(1000, 0, 1001, 1), 999, 1), joined(rectangle(0, 0, 1, 2), top))
        self.assertEqual(off(p, rectangle(1000, 0, 1001, 1), 1001, 1), top)

    def test_lone_stuff_in_the_patch_does_not_help(self):
        square = rectangle(0, 0, 2, 2)
        more = joined(square, segment(2, 1, 5, 1), dot(7, 7), segment(1, 2, 1, 9))
        self.assertEqual(drawn_in(more, HALF, HALF), rectangle(HALF, HALF, (3, 2), (3, 2)))
        self.assertEqual(drawn_in(segment(0, 0, 5, 0), HALF, HALF), joined())
        self.assertEqual(drawn_in(dot(0, 0), (1, 1000), (1, 1000)), joined())

    def test_a_slit_and_a_pinhole(self):
        square = rectangle(0, 0, 4, 4)
        self.assertEqual(drawn_in(less(square, segment(1, 1, 3, 3)), 1, 1), rectangle(1, 1, 3, 3))
        slit = less(square, hull([(2, 1), (2, 3), ((201, 100), 2)]))
        got = drawn_in(slit, 1, 1)
        self.assertTrue(within(got, rectangle(1, 1, 3, 3)))
        self.assertEqual(common(got, rectangle(1, 2, 3, 2)), joined(dot(1, 2)))

    def test_random_patches(self):
        for seed in range(30):
            rng = random.Random(300 + seed)
            shapes = random_shapes(rng, 5)
            h, v = rng.choice([(1, 2), 1, (2, 3)]), rng.choice([(1, 2), 1, (1, 3)])
            got = drawn_in(shapes.patch, h, v)
            self.assertEqual(form_faults(got), [])
            self.assertTrue(within(grown(got, h, v), shapes.patch))
            self.assertEqual(got, drawn_in(full(shapes.patch), h, v))
            self.assertEqual(turned(got), drawn_in(turned(shapes.patch), v, h))
            for z in places_around(got, shapes.sides(), h, v)[::3]:
                self.assertIs(has(got, z), within(foot_at(z, h, v), shapes.patch))


class OffTest(unittest.TestCase):
    def test_lone_stuff_bars_nothing(self):
        p = rectangle(0, 0, 4, 4)
        for stuff in (dot(2, 2), segment(0, 2, 4, 2), segment(0, 0, 4, 4), segment(2, 0, 2, 4)):
            self.assertEqual(off(p, stuff, 1, 1), p)
        stuff = joined(segment(0, 2, 4, 2), rectangle(5, 0, 6, 4), dot(2, 2))
        self.assertEqual(off(p, stuff, 2, 1), rectangle(0, 0, 3, 4))

    def test_corners_segments_and_points_in_the_patch(self):
        stuff = rectangle(1, 1, 3, 3)
        p = joined(segment(0, 0, 6, 0), dot(2, 2), dot(5, 5), segment((1, 2), -1, (1, 2), 5), segment(0, 4, 4, 6))
        self.assertEqual(off(p, stuff, HALF, HALF), joined(segment(0, 0, 6, 0), dot(5, 5), segment(HALF, -1, HALF, 5),
                                                           segment(0, 4, 4, 6)))
        self.assertEqual(off(p, stuff, 1, 1), joined(segment(0, 0, 6, 0), dot(5, 5), segment(HALF, -1, HALF, 0),
                                                     segment(HALF, 4, HALF, 5), segment(0, 4, 4, 6)))
        self.assertEqual(off(rectangle(0, 0, 4, 4), stuff, 1, 1),
                         joined(segment(0, 0, 4, 0), segment(0, 4, 4, 4), segment(0, 0, 0, 4), segment(4, 0, 4, 4)))
        self.assertEqual(off(dot(2, 2), stuff, HALF, HALF), joined())

    def test_passages(self):
        p = rectangle(0, -2, 10, 3)
        for gap, wanted in (((1, 1), segment((9, 2), 0, (9, 2), 1)), ((99, 100), joined()),
                            ((101, 100), rectangle((9, 2), 0, (451, 100), 1))):
            right = number(4 + fraction(gap))
            stuff = joined(rectangle(0, 0, 4, 1), rectangle(right, 0, 10, 1))
            self.assertEqual(common(off(p, stuff, HALF, HALF), rectangle(0, 0, 10, 1)), wanted)

    def test_a_point_between_four_blocks(self):
        blocks = joined(rectangle(0, 0, 4, 4), rectangle(5, 0, 9, 4), rectangle(0, 5, 4, 9), rectangle(5, 5, 9, 9))
        p = rectangle(2, 2, 7, 7)
        cross = joined(segment((9, 2), 2, (9, 2), 7), segment(2, (9, 2), 7, (9, 2)))
        self.assertEqual(off(p, blocks, HALF, HALF), cross)
        tight = joined(blocks, rectangle(4, 3, 5, 4), rectangle(4, 5, 5, 6), rectangle(3, 4, 4, 5),
                       rectangle(5, 4, 6, 5))
        ends = joined(segment((9, 2), 2, (9, 2), (5, 2)), segment((9, 2), (13, 2), (9, 2), 7),
                      segment(2, (9, 2), (5, 2), (9, 2)), segment((13, 2), (9, 2), 7, (9, 2)))
        self.assertEqual(off(p, tight, HALF, HALF), joined(dot((9, 2), (9, 2)), ends))

    def test_a_place_is_barred_if_it_is_inside_a_grown_strip(self):
        for seed in range(8):
            rng = random.Random(600 + seed)
            stuff = random_shapes(rng, 4)
            frame = rectangle(-9, -9, 9, 9)
            free = off(frame, stuff.patch, 1, HALF)
            strips = [piece_of(strip) for strip in stuff.patch.strips()]
            bars = [grown(strip, 1, HALF) for strip in strips if full(strip)]
            for z in places_around(free, stuff.sides(), 1, HALF)[::3]:
                if has(frame, z):
                    self.assertIs(has(free, z), not any(has_inside(bar, z) for bar in bars))

    def test_random_patches(self):
        for seed in range(30):
            rng = random.Random(900 + seed)
            shapes, stuff = random_shapes(rng, 3), random_shapes(rng, 4)
            h, v = rng.choice([(1, 2), 1, (2, 3)]), rng.choice([(1, 2), 1, 2])
            got = off(shapes.patch, stuff.patch, h, v)
            self.assertEqual(form_faults(got), [])
            self.assertTrue(within(got, shapes.patch))
            self.assertTrue(within(cut_out(shapes.patch, grown(full(stuff.patch), h, v)), got))
            for z in places_around(got, shapes.sides() + stuff.sides(), h, v)[::4]:
                free = not insides_meet(foot_at(z, h, v), stuff.patch)
                self.assertIs(has(got, z), has(shapes.patch, z) and free)

    def test_rising_and_falling(self):
        for seed in range(20):
            rng = random.Random(1200 + seed)
            p, more, stuff, other = [random_shapes(rng, 3).patch for _ in range(4)]
            large = joined(p, more)
            self.assertTrue(within(grown(p, 1, HALF), grown(large, 1, HALF)))
            self.assertTrue(within(drawn_in(p, HALF, HALF), drawn_in(large, HALF, HALF)))
            self.assertTrue(within(off(p, joined(stuff, other), 1, HALF), off(p, stuff, 1, HALF)))
            self.assertTrue(within(off(p, stuff, 1, HALF), off(large, stuff, 1, HALF)))
            self.assertEqual(grown(grown(p, 1, HALF), HALF, 1), grown(p, (3, 2), (3, 2)))
            self.assertEqual(drawn_in(drawn_in(p, HALF, HALF), HALF, (1, 3)), drawn_in(p, 1, (5, 6)))


def piece_of(strip):
    """The patch of one of the items of strips."""
    y0, y1, (a, b, c, d) = strip
    return hull([(a, y0), (b, y0), (c, y1), (d, y1)])


if __name__ == "__main__":
    unittest.main()
