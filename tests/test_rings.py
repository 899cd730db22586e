import random
import unittest
from fractions import Fraction

from mostlaid.errors import BadRule
from mostlaid.measures import size
from mostlaid.patches import dot, rectangle, segment
from mostlaid.rings import ODD, OVER, SOME, hull, of_rings
from mostlaid.sets import full, joined, less, within

from tests.reference import (NEARER, corners_around, directions_of, form_faults, has, in_convex, near, number, numbers,
                             own_samples, samples)

RULES = {SOME: lambda w: w != 0, OVER: lambda w: w > 0, ODD: lambda w: w % 2 != 0}


def winding(rings, z):
    """The winding number by the words of the document; None on a side."""
    total = 0
    for ring in rings:
        for k in range(len(ring)):
            (ax, ay), (bx, by) = ring[k - 1], ring[k]
            turn = (bx - ax) * (z[1] - ay) - (by - ay) * (z[0] - ax)
            if turn == 0 and min(ax, bx) <= z[0] <= max(ax, bx) and min(ay, by) <= z[1] <= max(ay, by):
                return None
            if min(ay, by) <= z[1] < max(ay, by):
                x = ax + Fraction(bx - ax) * (z[1] - ay) / (by - ay)
                if x > z[0]:
                    total += 1 if by > ay else -1
    return total


def winding_numbers_near(rings, z, ways):
    """The winding numbers at points on no side that are z or as near to z as can be."""
    number_here = winding(rings, z)
    if number_here is not None:
        return {number_here}
    return {winding(rings, w) for w in near(z, ways, NEARER)} - {None}


class RingsTest(unittest.TestCase):
    def test_constants(self):
        self.assertEqual((SOME, OVER, ODD), ("some", "over", "odd"))

    def test_a_square_both_ways(self):
        ring = [(0, 0), (2, 0), (2, 2), (0, 2)]
        square = rectangle(0, 0, 2, 2)
        self.assertEqual(of_rings([ring]), square)
        self.assertEqual(of_rings([ring[::-1]]), square)
        self.assertEqual(of_rings([ring], OVER), square)
        self.assertEqual(of_rings([ring[::-1]], OVER), joined())
        self.assertEqual(of_rings([ring[::-1]], rule=ODD), square)
        for k in range(4):
            self.assertEqual(of_rings(rings=[ring[k:] + ring[:k]]), square)
        self.assertEqual(of_rings(([(0, 0), (2, 0), (2, 2)], [(0, 0), (2, 2), (0, 2)])), square)

    def test_a_list_of_tuples_and_fractions(self):
        ring = [((1, 2), 0), ((7, 3), (0, 1)), (1, (5, 4))]
        self.assertEqual(of_rings([ring]), hull(ring))
        self.assertEqual(of_rings((tuple(ring),)), hull(ring))

    def test_rings_that_give_nothing(self):
        for rings in ([], [[]], [[(1, 1)]], [[(0, 0), (3, 3)]], [[(0, 0), (1, 1), (2, 2)]], [[(1, 1)] * 5],
                      [[(0, 0), (2, 0), (0, 0), (2, 0)]], [[], [(0, 0)], [(0, 0), (1, 0)]]):
            for rule in RULES:
                got = of_rings(rings, rule)
                self.assertEqual((got.levels, got.rows, got.bands), ((), (), ()))

    def test_equal_points_in_a_ring(self):
        ring = [(0, 0), (0, 0), (4, 0), (4, 0), (4, 4), (4, 4), (4, 4)]
        self.assertEqual(of_rings([ring]), hull([(0, 0), (4, 0), (4, 4)]))
        spike = [(0, 0), (4, 0), (9, 0), (4, 0), (4, 4), (0, 4), (0, 9), (0, 4)]
        self.assertEqual(of_rings([spike]), rectangle(0, 0, 4, 4))

    def test_two_rings(self):
        outer = [(0, 0), (6, 0), (6, 6), (0, 6)]
        inner = [(1, 1), (5, 1), (5, 5), (1, 5)]
        whole, frame = rectangle(0, 0, 6, 6), less(rectangle(0, 0, 6, 6), rectangle(1, 1, 5, 5))
        self.assertEqual(of_rings([outer, inner]), whole)
        self.assertEqual(of_rings([outer, inner], OVER), whole)
        self.assertEqual(of_rings([outer, inner], ODD), frame)
        for rule in RULES:
            self.assertEqual(of_rings([outer, inner[::-1]], rule), frame)
        self.assertEqual(of_rings([outer, outer], ODD), joined())
        self.assertEqual(of_rings([outer, outer], OVER), whole)
        self.assertEqual(of_rings([outer, outer[::-1]]), joined())
        self.assertEqual(of_rings([outer[::-1], inner, inner], OVER), rectangle(1, 1, 5, 5))

    def test_a_ring_that_crosses_itself(self):
        eight = [(0, 0), (2, 2), (2, 0), (0, 2)]
        left, right = hull([(0, 0), (1, 1), (0, 2)]), hull([(2, 0), (1, 1), (2, 2)])
        self.assertEqual(of_rings([eight]), joined(left, right))
        self.assertEqual(of_rings([eight], ODD), joined(left, right))
        over = of_rings([eight], OVER)
        self.assertIn(over, (left, right))
        self.assertEqual(joined(over, of_rings([eight[::-1]], OVER)), joined(left, right))
        star = [(0, 3), (2, -3), (-3, 1), (3, 1), (-2, -3)]
        self.assertTrue(less(of_rings([star]), of_rings([star], ODD)))
        self.assertEqual(of_rings([star], OVER), joined())
        self.assertEqual(of_rings([star[::-1]], OVER), of_rings([star]))

    def test_a_seam_between_rings_is_closed(self):
        a, b = [(0, 0), (2, 0), (2, 2), (0, 2)], [(2, 0), (4, 0), (4, 2), (2, 2)]
        self.assertEqual(of_rings([a, b]), rectangle(0, 0, 4, 2))
        self.assertEqual(of_rings([a, b[::-1]]), rectangle(0, 0, 4, 2))
        self.assertEqual(of_rings([a, b[::-1]], OVER), rectangle(0, 0, 2, 2))
        thrice = [a, a, a, [(1, 0), (2, 0), (2, 2), (1, 2)]]
        self.assertEqual(of_rings(thrice, ODD), rectangle(0, 0, 1, 2))

    def test_bad_rules(self):
        for rule in (None, True, False, 0, 1, "", "SOME", "some ", "all", ("some",), ["odd"], [], ()):
            for rings in ([], [[(0, 0), (1, 0), (0, 1)]]):
                with self.assertRaises(BadRule) as held:
                    of_rings(rings, rule)
                self.assertIs(held.exception.rule, rule)
                with self.assertRaises(BadRule) as held:
                    of_rings(rings, rule=rule)
                self.assertIs(held.exception.rule, rule)

    def test_rings_are_not_changed(self):
        rings = [[(0, 0), (3, 0), (0, 3)], [(1, 1)]]
        of_rings(rings)
        hull(rings[0])
        self.assertEqual(rings, [[(0, 0), (3, 0), (0, 3)], [(1, 1)]])

    def test_random_rings_by_their_winding_numbers(self):
        for seed in range(16):
            rng = random.Random(seed)
            most = rng.choice((2, 4, 6))
            rings = [[(Fraction(rng.randint(-most, most)), Fraction(rng.randint(-most, most)))
                      for _ in range(rng.randint(1, 7))] for _ in range(rng.randint(1, 3))]
            self.compare(rings)

    def compare(self, rings):
        sides = [(ring[k - 1], ring[k]) for ring in rings for k in range(len(ring))]
        sides = [side for side in sides if side[0] != side[1]]
        ways = directions_of(sides)
        points = samples(sides, ways)
        passed = [[numbers(*point) for point in ring] for ring in rings]
        made = {rule: of_rings(passed, rule) for rule in RULES}
        numbers_at = {}
        for z in points + [z for got in made.values() for z in own_samples(got)]:
            if z not in numbers_at:
                numbers_at[z] = winding_numbers_near(rings, z, ways)
        for rule, obeys in RULES.items():
            got = made[rule]
            self.assertEqual(form_faults(got), [])
            self.assertEqual(full(got), got)
            for z in points + own_samples(got):
                self.assertEqual(has(got, z), any(obeys(w) for w in numbers_at[z]))


class HullTest(unittest.TestCase):
    def test_few_points(self):
        empty = hull([])
        self.assertEqual((empty.levels, empty.rows, empty.bands), ((), (), ()))
        self.assertEqual(hull([(1, 2)]), dot(1, 2))
        self.assertEqual(hull([(1, 2)] * 4), dot(1, 2))
        self.assertEqual(hull([(1, 2), (3, 5)]), segment(1, 2, 3, 5))
        self.assertEqual(hull([(3, 5), (1, 2)]), segment(1, 2, 3, 5))
        self.assertEqual(hull([(3, 2), (1, 2)]), segment(1, 2, 3, 2))
        self.assertEqual(hull(points=[(3, 2), (3, 7)]), segment(3, 2, 3, 7))

    def test_points_on_one_line(self):
        self.assertEqual(hull([(0, 0), (4, 2), (2, 1), (6, 3), (-2, -1)]), segment(-2, -1, 6, 3))
        self.assertEqual(hull([(0, 0), (4, 0), (2, 0)]), segment(0, 0, 4, 0))
        self.assertEqual(hull([(1, 0), (1, (7, 2)), (1, 2)]), segment(1, 0, 1, (7, 2)))

    def test_more_points(self):
        self.assertEqual(hull([(0, 0), (2, 0), (2, 2), (0, 2), (1, 1), (1, 0)]), rectangle(0, 0, 2, 2))
        self.assertEqual(hull([(0, 0), (4, 0), (0, 4)]), of_rings([[(0, 0), (4, 0), (0, 4)]]))
        self.assertEqual(hull([(0, 0), (4, 0), (0, 4), (1, 1)]), of_rings([[(0, 0), (4, 0), (0, 4)]]))

    def test_random_points(self):
        for seed in range(60):
            rng = random.Random(seed)
            points = [(Fraction(rng.randint(-6, 6), rng.choice((1, 2))), Fraction(rng.randint(-6, 6)))
                      for _ in range(rng.randint(1, 9))]
            passed = [numbers(*point) for point in points]
            got = hull(passed)
            self.assertEqual(form_faults(got), [])
            self.assertEqual(got, hull(passed[::-1]))
            corners = corners_around(points)
            for z in own_samples(got):
                self.assertTrue(in_convex(corners, z))
            for point in points:
                self.assertTrue(has(got, point))
            if len(corners) > 2:
                ring = [numbers(*corner) for corner in corners]
                self.assertEqual(got, of_rings([ring], OVER))
                self.assertEqual(number(0) == size(got), False)
            self.assertTrue(within(joined(*[dot(*point) for point in passed]), got))


if __name__ == "__main__":
    unittest.main()
