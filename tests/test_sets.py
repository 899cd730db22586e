import random
import unittest

from mostlaid.measures import size
from mostlaid.patches import dot, rectangle, segment
from mostlaid.rings import hull
from mostlaid.sets import common, cut_out, full, insides_meet, joined, less, within

from tests.cases import PatchCase
from tests.makers import random_shapes
from tests.reference import closure, directions_of, form_faults, fraction, has, inside, own_samples, samples


class SetsTest(PatchCase):
    def test_the_example(self):
        p, q = rectangle(0, 0, 2, 2), rectangle(2, 0, 4, 2)
        self.shows(common(p, q), [0, 2], [[(2, 2)], [(2, 2)]], [[(2, 2, 2, 2)]])
        self.assertEqual(common(p, q), segment(2, 0, 2, 2))
        self.shows(less(p, q), [0, 2], [[(0, 2)], [(0, 2)]], [[(0, 2, 0, 2)]])
        self.shows(cut_out(p, joined(p, q)), [0, 2], [[(0, 2)], [(0, 2)]], [[(0, 0, 0, 0)]])
        self.shows(joined(p, q), [0, 2], [[(0, 4)], [(0, 4)]], [[(0, 4, 0, 4)]])
        self.assertIs(within(p, joined(p, q)), True)
        self.assertIs(within(joined(p, q), p), False)
        self.assertIs(insides_meet(p, q), False)
        self.assertIs(insides_meet(p, joined(p, q)), True)

    def test_joined_of_none_one_and_more(self):
        self.shows(joined(), [], [], [])
        p = joined(rectangle(0, 0, 1, 1), dot(3, 3))
        self.assertEqual(joined(p), p)
        self.assertEqual(joined(p, p), p)
        self.assertEqual(joined(joined(), p, joined()), p)
        many = [dot(k, k % 3) for k in range(11)]
        self.assertEqual(joined(*many), joined(*many[::-1]))
        self.shows(joined(*many), [0, 1, 2],
                   [[(k, k) for k in range(11) if k % 3 == row] for row in range(3)], [[], []])

    def test_by_name(self):
        p, q = rectangle(0, 0, 2, 2), rectangle(1, 0, 4, 2)
        self.assertEqual(common(q=q, p=p), rectangle(1, 0, 2, 2))
        self.assertEqual(less(q=q, p=p), rectangle(0, 0, 1, 2))
        self.assertEqual(cut_out(q=q, p=p), cut_out(p, q))
        self.assertEqual(full(p=p), p)
        self.assertIs(within(q=q, p=p), False)
        self.assertIs(insides_meet(q=q, p=p), True)

    def test_less_against_cut_out(self):
        p, q = rectangle(0, 0, 4, 4), rectangle(1, 1, 3, 3)
        frame = joined(rectangle(0, 0, 4, 1), rectangle(0, 3, 4, 4), rectangle(0, 0, 1, 4), rectangle(3, 0, 4, 4))
        self.assertEqual(less(p, q), frame)
        self.assertEqual(cut_out(p, q), frame)
        self.assertEqual(less(q, q), joined())
        rim = joined(segment(1, 1, 3, 1), segment(1, 3, 3, 3), segment(1, 1, 1, 3), segment(3, 1, 3, 3))
        self.assertEqual(cut_out(q, q), rim)

    def test_thin_things_are_taken_away(self):
        p = rectangle(0, 0, 4, 4)
        for thin in (segment(1, 1, 3, 3), segment(0, 2, 4, 2), segment(2, 0, 2, 4), dot(1, 1), dot(0, 0)):
            self.assertEqual(less(p, thin), p)
            self.assertEqual(cut_out(p, thin), p)
            self.assertEqual(less(thin, p), joined())
            self.assertEqual(common(p, thin), thin)
            self.assertEqual(joined(p, thin), p)
            self.assertIs(within(thin, p), True)
            self.assertIs(insides_meet(p, thin), False)
            self.assertIs(insides_meet(thin, thin), False)
            self.assertEqual(full(joined(thin, rectangle(5, 5, 6, 6))), rectangle(5, 5, 6, 6))
        self.assertEqual(cut_out(segment(0, 2, 6, 2), p), joined(dot(0, 2), segment(4, 2, 6, 2)))
        self.assertEqual(less(segment(0, 2, 6, 2), p), segment(4, 2, 6, 2))
        self.assertEqual(less(segment(-1, -1, 6, 6), p), joined(segment(-1, -1, 0, 0), segment(4, 4, 6, 6)))
        self.assertEqual(cut_out(segment(0, 0, 0, 4), p), segment(0, 0, 0, 4))
        self.assertEqual(less(segment(0, 0, 0, 4), p), joined())
        self.assertEqual(less(segment(0, 0, 4, 0), segment(1, 0, 2, 0)), joined(segment(0, 0, 1, 0), segment(2, 0, 4, 0)))
        self.assertEqual(less(segment(0, 0, 4, 0), dot(1, 0)), segment(0, 0, 4, 0))
        self.assertEqual(less(segment(0, 0, 4, 4), dot(1, 1)), segment(0, 0, 4, 4))
        self.assertEqual(less(dot(1, 1), dot(1, 1)), joined())
        self.assertEqual(less(segment(0, 0, 4, 4), segment(0, 4, 4, 0)), segment(0, 0, 4, 4))
        self.assertEqual(common(segment(0, 0, 4, 4), segment(0, 4, 4, 0)), dot(2, 2))
        self.assertEqual(common(segment(0, 0, 4, 4), segment(1, 1, 6, 6)), segment(1, 1, 4, 4))

    def test_seams(self):
        left, right = rectangle(0, 0, 1, 2), rectangle(1, 0, 2, 2)
        seam = segment(1, 0, 1, 2)
        self.assertEqual(common(left, right), seam)
        self.assertEqual(joined(left, right), rectangle(0, 0, 2, 2))
        self.assertEqual(cut_out(seam, left), seam)
        self.assertEqual(cut_out(seam, joined(left, right)), joined(dot(1, 0), dot(1, 2)))
        self.assertEqual(less(joined(left, right), right), left)
        low, high = rectangle(0, 0, 2, 1), rectangle(0, 1, 2, 2)
        self.assertEqual(common(low, high), segment(0, 1, 2, 1))
        self.assertEqual(cut_out(segment(0, 1, 2, 1), rectangle(0, 0, 2, 2)), joined(dot(0, 1), dot(2, 1)))
        self.assertEqual(less(rectangle(0, 0, 2, 2), low), high)
        self.assertIs(insides_meet(low, high), False)
        self.assertIs(insides_meet(left, low), True)
        stairs = cut_out(rectangle(0, 0, 3, 2), joined(rectangle(0, 0, 1, 1), rectangle(1, 1, 2, 2)))
        self.assertTrue(within(segment(0, 1, 2, 1), stairs))

    def test_full(self):
        p = joined(rectangle(0, 0, 2, 2), segment(2, 1, 5, 1), segment(1, 2, 1, 4), dot(7, 7), segment(0, 4, 4, 4))
        self.assertEqual(full(p), rectangle(0, 0, 2, 2))
        self.assertEqual(full(segment(0, 0, 1, 1)), joined())
        self.assertEqual(full(joined()), joined())
        glass = joined(hull([(0, 0), (2, 0), (1, 1)]), hull([(0, 2), (2, 2), (1, 1)]))
        self.assertEqual(full(joined(glass, segment(0, 1, 2, 1))), glass)

    def test_the_empty_patch(self):
        empty = joined()
        for p in (rectangle(0, 0, 1, 1), segment(0, 0, 1, 2), dot(0, 0), empty):
            self.assertEqual(joined(p, empty), p)
            self.assertEqual(joined(empty, p), p)
            for got in (common(p, empty), common(empty, p), less(empty, p), cut_out(empty, p)):
                self.shows(got, [], [], [])
            self.assertEqual(less(p, empty), p)
            self.assertEqual(cut_out(p, empty), p)
            self.assertIs(within(empty, p), True)
            self.assertIs(within(p, empty), not p)
            self.assertIs(insides_meet(p, empty), False)
            self.assertIs(insides_meet(empty, p), False)

    def test_sets_that_are_apart(self):
        p = rectangle(0, 0, 1, 1)
        for q in (rectangle(0, 2, 1, 3), rectangle(2, 0, 3, 1), rectangle(-3, -3, -2, -2)):
            self.assertEqual(common(p, q), joined())
            self.assertEqual(less(p, q), p)
            self.assertEqual(cut_out(p, q), p)
            self.assertIs(within(p, q), False)
            self.assertIs(insides_meet(p, q), False)

    def test_insides_that_pass_over_one_another(self):
        thin = hull([(0, 0), ((1, 10), 0), (4, 4), ((39, 10), 4)])
        other = hull([(4, 0), ((39, 10), 0), (0, 4), ((1, 10), 4)])
        self.assertIs(insides_meet(thin, other), True)
        self.assertIs(insides_meet(hull([(0, 0), (1, 0), (0, 4)]), hull([(1, 0), (1, 4), (0, 4)])), False)
        self.assertIs(insides_meet(hull([(0, 0), (1, 0), (0, 4)]), hull([((99, 100), 0), (1, 4), (0, 4)])), True)
        self.assertIs(insides_meet(rectangle(0, 0, 9, 9), rectangle(4, 4, 5, 5)), True)
        self.assertIs(insides_meet(rectangle(4, 4, 5, 5), rectangle(0, 0, 9, 9)), True)
        self.assertIs(insides_meet(hull([(0, 0), (2, 0), (1, 1)]), hull([(0, 2), (2, 2), (1, 1)])), False)

    def test_within(self):
        house = joined(rectangle(0, 0, 4, 2), hull([(0, 2), (4, 2), (2, 4)]), segment(4, 0, 8, 0))
        for p, wanted in [(hull([(0, 0), (4, 0), (2, 4)]), True), (rectangle(1, 1, 3, 3), True),
                          (rectangle(1, 1, 3, (301, 100)), False), (segment(1, 0, 8, 0), True),
                          (segment(1, 0, (801, 100), 0), False), (dot(8, 0), True), (dot(8, 1), False),
                          (segment(0, 0, 2, 4), True), (segment(-1, 0, 2, 4), False), (house, True)]:
            self.assertIs(within(p, house), wanted)
        ring = less(rectangle(0, 0, 3, 3), rectangle(1, 1, 2, 2))
        self.assertIs(within(rectangle(0, 0, 3, 3), ring), False)
        self.assertIs(within(segment(0, 1, 3, 1), ring), True)
        self.assertIs(within(segment(0, (3, 2), 3, (3, 2)), ring), False)

    def test_arguments_stay_as_they_were(self):
        p, q = joined(rectangle(0, 0, 2, 2), dot(4, 4)), hull([(1, 1), (5, 2), (3, 6)])
        kept = [(x.levels, x.rows, x.bands) for x in (p, q)]
        for act in (joined, common, less, cut_out, within, insides_meet):
            act(p, q)
        full(p)
        self.assertEqual(kept, [(x.levels, x.rows, x.bands) for x in (p, q)])

    def test_random_patches_against_the_model(self):
        for seed in range(12):
            rng = random.Random(seed)
            s, u = random_shapes(rng, 3), random_shapes(rng, 3)
            self.compare(s, u)

    def compare(self, s, u):
        p, q = s.patch, u.patch
        sides = s.sides() + u.sides()
        ways = directions_of(sides)
        p_inside, q_inside = inside(s.has, ways), inside(u.has, ways)
        wanted = [
            (joined(p, q), lambda z: s.has(z) or u.has(z)),
            (common(p, q), lambda z: s.has(z) and u.has(z)),
            (cut_out(p, q), lambda z: s.has(z) and not q_inside(z)),
            (less(p, q), closure(lambda z: s.has(z) and not u.has(z), ways)),
            (full(p), closure(p_inside, ways)),
        ]
        points = samples(sides, ways)
        for got, test in wanted:
            self.assertEqual(form_faults(got), [])
            for z in points + own_samples(got):
                self.assertEqual(has(got, z), test(z))
        self.assertIs(within(p, q), all(u.has(z) for z in points if s.has(z)))
        self.assertIs(insides_meet(p, q), any(p_inside(z) and q_inside(z) for z in points))

    def test_laws_over_random_patches(self):
        for seed in range(60):
            rng = random.Random(1000 + seed)
            p, q = random_shapes(rng, 6).patch, random_shapes(rng, 6).patch
            self.assertEqual(common(p, q), common(q, p))
            self.assertEqual(joined(p, q), joined(q, p))
            self.assertEqual(joined(common(p, q), less(p, q)), p)
            self.assertEqual(joined(common(p, q), cut_out(p, q)), p)
            self.assertTrue(within(less(p, q), cut_out(p, q)))
            self.assertEqual(within(p, q), not less(p, q))
            self.assertEqual(within(p, q), common(p, q) == p)
            self.assertEqual(insides_meet(p, q), bool(full(common(p, q))))
            self.assertFalse(insides_meet(less(p, q), q))
            self.assertEqual(full(full(p)), full(p))
            self.assertTrue(within(full(p), p))
            for r in (common(p, q), joined(p, q), less(p, q), cut_out(p, q)):
                self.assertEqual(form_faults(r), [])
            one, other, union, both = [fraction(size(r)) for r in (p, q, joined(p, q), common(p, q))]
            self.assertEqual(one + other, union + both)


if __name__ == "__main__":
    unittest.main()
