import unittest

from mostlaid.convex import convex
from mostlaid.errors import BadLayers, Laid, NoPoint
from mostlaid.feet import grown
from mostlaid.greatest import greatest, left_out
from mostlaid.measures import first_point
from mostlaid.papers import Paper, certificate, flaw
from mostlaid.patches import rectangle
from mostlaid.quick import QuickPrinter
from mostlaid.ratios import over, plus
from mostlaid.rings import of_rings
from mostlaid.sets import common, cut_out, full, joined, less
from mostlaid.setups import checked_standing

from tests.bodies import EMPTY, HALF, LEFT, POSTS, WRONG_STANDINGS, foot_at, one_layer, two_layers
from tests.cases import RefusalCase
from tests.reference import numbers
from tests.slow import random_case, random_row, rng_of, spots_of

TRIANGLE = of_rings([[(0, 0), (6, 0), (0, 6)]])
POINT = ((11, 2), (1, 4))
FIRST = ("slice", 0, (-3, 4), (0, 1), ((9, 2), (13, 2), (9, 2), (13, 2)))
SECOND = ("slice", 0, (0, 1), (5, 4), ((6, 1), (13, 2), (19, 4), (13, 2)))
BEAM = rectangle(0, 0, 4, 1)
WIDE = rectangle(0, 0, 10, 10)


def strip(a, b, c, d):
    return numbers(a, b, c, d)


def straight(kind, layer, x0, y0, x1, y1):
    """The piece of a rectangle."""
    return (kind, layer) + numbers(y0, y1) + (numbers(x0, x1, x0, x1),)


def slow_pieces(wanted, standing, layer, point):
    """The pieces of [31] before any is struck."""
    setup = wanted.setup
    part, ground = wanted.slices[layer - 1], greatest(wanted, standing).grounds[layer - 1]
    foot = foot_at(setup, *point)
    near, nearby = grown(foot, *setup.foot), grown(foot, *setup.carriage)
    patches = [("slice", 0, less(near, part)), ("ground", 0, less(common(near, part), ground))]
    for j in range(layer + 1, setup.layers + 1):
        patches.append(("foot", j, common(near, standing[j - 1])))
    for j in range(layer + 1, setup.layers + 1):
        if number_below(plus(setup.heights[layer], setup.gap), setup.heights[j]):
            patches.append(("carriage", j, common(nearby, standing[j - 1])))
    return [(kind, j, y0, y1, one) for kind, j, patch in patches for y0, y1, one in full(patch).strips()]


def number_below(a, b):
    return a[0] * b[1] < b[0] * a[1]


def left_of(setup, point, pieces):
    """The places whose foot covers a point and that no piece bars."""
    free = foot_at(setup, *point)
    for kind, _, y0, y1, (a, b, c, d) in pieces:
        patch = convex([(a, y0), (b, y0), (c, y1), (d, y1)])
        free = cut_out(free, grown(patch, *(setup.carriage if kind == "carriage" else setup.foot)))
    return free


def slow_struck(setup, point, pieces):
    left = list(pieces)
    for piece in pieces:
        others = list(left)
        others.remove(piece)
        if not left_of(setup, point, others):
            left = others
    return tuple(left)


def points_left_out(wanted, standing):
    """For each layer points inside the slice that are not in the body."""
    found = []
    for at, (part, body) in enumerate(zip(left_out(wanted, standing), greatest(wanted, standing).body)):
        for y0, y1, (a, b, c, d) in part.strips():
            for share in (2, 3):
                point = (over(plus(plus(a, b), plus(c, d)), 4), over(plus(y0, over(plus(y0, y1), share)), 2))
                if wanted.slices[at].has_inside(*point) and point not in body:
                    found.append((at + 1, point))
    return found


class PaperTest(unittest.TestCase):
    def test_attributes(self):
        paper = Paper(1, (0, (1, 2)), [FIRST, None, [1]])
        self.assertEqual((paper.layer, paper.point), (1, ((0, 1), (1, 2))))
        self.assertEqual(paper.pieces, (FIRST, None, [1]))
        self.assertIsInstance(paper.pieces, tuple)
        self.assertEqual(len(paper), 3)
        self.assertEqual(len(Paper(layer=1, point=None, pieces=[])), 0)

    def test_points_that_are_none_stay(self):
        for point in (None, True, 0, "ab", (), (1,), (1, 2, 3), [1, 2], ((2, 4), 1), (True, 0), ((1, 0), 1), (0, None)):
            self.assertIs(Paper(1, point, []).point, point)

    def test_pieces_are_copied(self):
        pieces = [FIRST]
        paper = Paper(1, POINT, pieces)
        pieces.append(SECOND)
        self.assertEqual(paper.pieces, (FIRST,))

    def test_equal(self):
        self.assertEqual(Paper(1, (0, 2), [FIRST]), Paper(1, ((0, 1), (2, 1)), (FIRST,)))
        for other in (Paper(2, (0, 2), [FIRST]), Paper(1, (0, 3), [FIRST]), Paper(1, (0, 2), []), None, 1, (FIRST,)):
            self.assertNotEqual(Paper(1, (0, 2), [FIRST]), other)


class CertificateTest(RefusalCase):
    def test_the_triangle(self):
        wanted = one_layer(TRIANGLE)
        paper = certificate(wanted, 1, POINT)
        self.assertIsInstance(paper, Paper)
        self.assertEqual((paper.layer, paper.point, paper.pieces), (1, POINT, (FIRST, SECOND)))
        self.assertIsNone(flaw(wanted, paper))
        self.assertEqual(flaw(wanted, Paper(1, POINT, [SECOND])), ("free", (5, 1), (-1, 4)))
        self.assertEqual(flaw(wanted, Paper(1, POINT, [])), ("free", (5, 1), (-1, 4)))
        self.assertEqual(flaw(wanted, Paper(1, POINT, [FIRST])), ("free", (5, 1), (1, 2)))

    def test_ground(self):
        wanted = one_layer(rectangle(-5, -5, 5, 5))
        paper = certificate(wanted, layer=1, point=(-1, 1), standing=None)
        self.assertEqual(paper, Paper(1, (-1, 1), [straight("ground", 0, -2, 0, 0, 2)]))
        wanted = two_layers(LEFT, BEAM)
        paper = certificate(wanted, 2, (3, HALF))
        self.assertEqual(paper.pieces, (straight("ground", 0, 2, 0, 4, 1),))

    def test_foot_and_carriage(self):
        wanted = two_layers(WIDE, EMPTY)
        paper = certificate(wanted, 1, (2, 2), [EMPTY, rectangle(0, 0, 4, 4)])
        self.assertEqual(paper.pieces, (straight("carriage", 2, 1, 1, 3, 3),))
        wanted = two_layers(WIDE, EMPTY, gap=1, carriage=(1, 1))
        paper = certificate(wanted, 1, (2, 2), [EMPTY, rectangle(0, 0, 4, 4)])
        self.assertEqual(paper.pieces, (straight("foot", 2, 1, 1, 3, 3),))
        wanted = two_layers(WIDE, EMPTY, gap=(3, 4), carriage=(1, 1))
        paper = certificate(wanted, 1, (2, 2), [EMPTY, rectangle(0, 0, 4, 4)])
        half, most = (1, 2), (7, 2)
        self.assertEqual(paper.pieces, (("carriage", 2, half, most, (half, most, half, most)),))

    def test_the_stranger_at_the_posts(self):
        wanted = two_layers(POSTS, POSTS, carriage=(2, HALF), gap=HALF)
        stranger = [LEFT, LEFT]
        paper = certificate(wanted, 1, ((5, 2), HALF), stranger)
        self.assertEqual(paper.pieces[-1], straight("carriage", 2, 0, 0, 1, 1))
        self.assertIsNone(flaw(wanted, paper, stranger))
        self.assertEqual(flaw(wanted, paper), ("piece", len(paper) - 1))

    def test_refusals(self):
        wanted = two_layers(TRIANGLE, TRIANGLE)
        for layer in (0, 3, -1, 100):
            self.refuses(NoPoint, lambda: certificate(wanted, layer, POINT), layer, POINT)
        for point in (None, True, 7, "ab", (), [], (1,), [1, 1], (1, 1, 1), (True, 1), ((2, 2), 1), (0, 0), (3, 3), (9, 9),
                      (0, 1), ((2, 4), 1), ("1", "1"), (None, 1)):
            error = self.refuses(NoPoint, lambda: certificate(wanted, 2, point), 2, point)
            self.assertIs(error.point, point)
        for point in ((1, 1), ((1, 2), 2), (5, (1, 2)), (3, (9, 10)), ((9, 2), (1, 1)), (3, 2)):
            error = self.refuses(Laid, lambda: certificate(wanted, 1, point), 1, point)
            self.assertIs(error.point, point)

    def test_the_rim_of_the_body_is_laid(self):
        body = greatest(one_layer(TRIANGLE)).body[0]
        point = ((5, 1), (1, 2))
        self.assertTrue(body.has(*point) and not body.has_inside(*point))
        self.refuses(Laid, lambda: certificate(one_layer(TRIANGLE), 1, point), 1, point)

    def test_wrong_standings(self):
        wanted = two_layers(TRIANGLE, TRIANGLE)
        for standing, layer in WRONG_STANDINGS:
            self.refuses(BadLayers, lambda: certificate(wanted, 9, None, standing), layer)
            self.refuses(BadLayers, lambda: certificate(wanted, 1, (1, 1), standing), layer)
            self.refuses(BadLayers, lambda: flaw(wanted, Paper(9, None, [None]), standing), layer)

    def test_by_the_words(self):
        kinds, many = {}, 0
        for seed in range(60):
            rng = rng_of("papers", seed)
            wanted, standing = random_case(rng)
            begun = checked_standing(wanted.setup, standing)
            points = points_left_out(wanted, begun)
            for layer, point in rng.sample(points, min(3, len(points))):
                paper = certificate(wanted, layer, point, standing)
                pieces = slow_struck(wanted.setup, point, slow_pieces(wanted, begun, layer, point))
                self.assertEqual(paper, Paper(layer, point, pieces))
                self.check_holds(wanted, begun, paper)
                kinds.update((piece[0], True) for piece in pieces)
                many += 1
        self.assertEqual(set(kinds), {"slice", "ground", "foot", "carriage"})
        self.assertGreater(many, 80)

    def check_holds(self, wanted, begun, paper):
        self.assertIsNone(flaw(wanted, paper, begun))
        for k in range(len(paper)):
            others = paper.pieces[:k] + paper.pieces[k + 1:]
            point = first_point(left_of(wanted.setup, paper.point, others))
            self.assertEqual(flaw(wanted, Paper(paper.layer, paper.point, others), begun), ("free",) + point)

    def test_no_guarded_code_lays_the_point(self):
        many = 0
        for seed in range(25):
            rng = rng_of("guarded", seed)
            wanted, standing = random_case(rng)
            begun = checked_standing(wanted.setup, standing)
            points = points_left_out(wanted, begun)
            points = rng.sample(points, min(3, len(points)))
            papers = [certificate(wanted, layer, point, begun) for layer, point in points]
            printer = QuickPrinter(wanted.setup, standing=begun, wanted=wanted)
            spots = spots_of(wanted, begun)
            printer.run([random_row(rng, wanted.setup, spots) for _ in range(120)], skip=True)
            for paper in papers:
                self.assertNotIn(paper.point, less(printer.standing[paper.layer - 1], begun[paper.layer - 1]))
                self.assertIsNone(flaw(wanted, paper, printer.standing))
                many += 1
        self.assertGreater(many, 30)


class FlawTest(unittest.TestCase):
    def check_piece(self, wanted, good, bad, standing=None, layer=1, point=POINT):
        """A paper with a good piece and a bad one is wrong at the bad one."""
        self.assertEqual(flaw(wanted, Paper(layer, point, [good, bad]), standing), ("piece", 1))
        self.assertEqual(flaw(wanted, Paper(layer, point, [bad, good]), standing), ("piece", 0))

    def test_points(self):
        wanted = two_layers(TRIANGLE, TRIANGLE)
        for layer in (0, 3, -1):
            self.assertEqual(flaw(wanted, Paper(layer, POINT, [None])), ("point",))
        for point in (None, 0, (), [1, 1], (0, 0), (3, 3), (9, 9), (True, 1), ((2, 4), 1), "ab", (1, 1, 1)):
            self.assertEqual(flaw(wanted, Paper(1, point, [None])), ("point",))
        self.assertEqual(flaw(wanted, Paper(1, (1, 1), [])), ("free", (1, 2), (1, 2)))
        self.assertEqual(flaw(wanted=wanted, paper=Paper(2, (1, 1), []), standing=None), ("free", (1, 2), (1, 2)))

    def test_values_that_are_no_pieces(self):
        wanted = one_layer(TRIANGLE)
        kind, layer, y0, y1, one = FIRST
        bad = [None, True, 0, "slice", (), [], list(FIRST), FIRST[:4], FIRST + (0,), (None,) + FIRST[1:],
               (["slice"],) + FIRST[1:], ("Slice",) + FIRST[1:], ("body",) + FIRST[1:], (kind, False) + FIRST[2:],
               (kind, True) + FIRST[2:], (kind, None) + FIRST[2:], (kind, "0") + FIRST[2:], (kind, (0, 1)) + FIRST[2:],
               (kind, layer, -1, y1, one), (kind, layer, y0, 0, one), (kind, layer, y1, y0, one), (kind, layer, y1, y1, one),
               (kind, layer, (-6, 8), y1, one), (kind, layer, (-3, 4, 1), y1, one), (kind, layer, y0, (0, 2), one),
               (kind, layer, None, y1, one), (kind, layer, y0, True, one), (kind, layer, list(y0), y1, one),
               (kind, layer, y0, (0, -1), one), (kind, layer, y0, (False, 1), one),
               (kind, layer, y0, y1, None), (kind, layer, y0, y1, ()), (kind, layer, y0, y1, list(one)),
               (kind, layer, y0, y1, one[:3]), (kind, layer, y0, y1, one + one[:1]), (kind, layer, y0, y1, (5, 6, 5, 6)),
               (kind, layer, y0, y1, strip(6, 5, 5, 6)), (kind, layer, y0, y1, strip(5, 6, 6, 5)),
               (kind, layer, y0, y1, strip(5, 5, 5, 5)), (kind, layer, y0, y1, strip(5, 5, 6, 6)),
               (kind, layer, y0, y1, ((12, 2),) + numbers(7, 6, 7))]
        for piece in bad:
            self.check_piece(wanted, SECOND, piece)
        self.assertIsNone(flaw(wanted, Paper(1, POINT, [FIRST, SECOND, (kind, layer, y0, y1, strip(5, 5, 5, 6))])))

    def test_pieces_that_are_not_true(self):
        wanted = two_layers(TRIANGLE, TRIANGLE, gap=1, carriage=(1, 1))
        stuff = rectangle(1, 1, 3, 3)
        standing = [stuff, stuff]
        self.check_piece(wanted, FIRST, ("slice", 1) + FIRST[2:], standing)
        self.check_piece(wanted, FIRST, ("slice", -1) + FIRST[2:], standing)
        self.check_piece(wanted, FIRST, straight("slice", 0, 5, -1, 6, 1), standing)
        self.check_piece(wanted, FIRST, straight("ground", 0, 5, 5, 6, 6), standing)
        self.check_piece(wanted, FIRST, straight("ground", 1, 5, -6, 6, -5), standing)
        true = straight("foot", 2, 1, 1, 3, 3)
        self.assertIsNone(flaw(wanted, Paper(1, (2, 2), [true]), standing))
        for layer in (0, 1, 3, -1):
            self.check_piece(wanted, true, straight("foot", layer, 1, 1, 3, 3), standing, 1, (2, 2))
        self.check_piece(wanted, true, straight("foot", 2, 1, 1, 3, 4), standing, 1, (2, 2))
        self.check_piece(wanted, true, straight("carriage", 2, 1, 1, 3, 3), standing, 1, (2, 2))
        near = two_layers(TRIANGLE, TRIANGLE, gap=(3, 4), carriage=(1, 1))
        self.assertIsNone(flaw(near, Paper(1, (2, 2), [straight("carriage", 2, 1, 1, 3, 3)]), standing))

    def test_leaning_pieces(self):
        wanted = two_layers(WIDE, EMPTY, gap=1)
        standing = [EMPTY, of_rings([[(0, 0), (8, 0), (0, 8)]])]
        true = ("foot", 2, (0, 1), (4, 1), numbers(0, 8, 0, 4))
        self.assertIsNone(flaw(wanted, Paper(1, (2, 2), [true]), standing))
        for bad in (numbers(0, 8, 0, 5), numbers(0, 9, 0, 4), numbers(-1, 8, 0, 4), numbers(0, 8, -1, 4)):
            self.check_piece(wanted, true, ("foot", 2, (0, 1), (4, 1), bad), standing, 1, (2, 2))
        self.check_piece(wanted, true, ("foot", 2, (0, 1), (5, 1), numbers(0, 8, 0, 4)), standing, 1, (2, 2))

    def test_pieces_that_only_just_touch_are_true(self):
        wanted = one_layer(TRIANGLE)
        self.assertIsNone(flaw(wanted, Paper(1, POINT, [FIRST, SECOND, straight("slice", 0, -3, 0, 0, 5)])))
        self.assertIsNone(flaw(wanted, Paper(1, POINT, [FIRST, SECOND, straight("ground", 0, 20, 0, 21, 20)])))
        self.check_piece(wanted, FIRST, straight("ground", 0, 19, 0, 21, 20))

    def test_ground_is_grown_by_the_reach(self):
        wanted = two_layers(LEFT, BEAM, reach=(1, 0))
        self.assertIsNone(flaw(wanted, Paper(2, (3, HALF), [straight("ground", 0, 2, 0, 4, 1)])))
        found = flaw(wanted, Paper(2, (3, HALF), [("ground", 0, (0, 1), (1, 1), ((3, 2), (4, 1), (3, 2), (4, 1)))]))
        self.assertEqual(found, ("piece", 0))

    def test_bars_are_open(self):
        wanted = two_layers(WIDE, EMPTY)
        # Two walls in the layer above leave a slit as wide as the foot: the places on one line are free.
        left, right = numbers(3) + ((9, 2),), ((11, 2),) + numbers(7)
        walls = joined(rectangle(3, 3, left[1], 7), rectangle(right[0], 3, 7, 7))
        pieces = [("foot", 2, (3, 1), (7, 1), left + left), ("foot", 2, (3, 1), (7, 1), right + right)]
        self.assertEqual(flaw(wanted, Paper(1, (5, 5), pieces), [EMPTY, walls]), ("free", (5, 1), (9, 2)))


if __name__ == "__main__":
    unittest.main()
