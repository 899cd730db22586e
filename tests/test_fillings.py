import random
import unittest
from fractions import Fraction

from mostlaid.errors import BadFilling
from mostlaid.feet import drawn_in, grown
from mostlaid.fillings import (column_strokes, laid, ring_strokes, row_strokes, shrunk, spared, strokes_of, tree_strokes,
                               wall_strokes)
from mostlaid.measures import parts, turned
from mostlaid.patches import dot, rectangle, segment
from mostlaid.rims import cells, rim
from mostlaid.rings import hull
from mostlaid.sets import joined, less, within

from tests.makers import random_shapes
from tests.reference import fraction, number, numbers

HALF = (1, 2)
WORDS = ("rows", "columns", "rings", "tree", "spare")
BAD_FILLINGS = [None, True, False, 0, 1, 3, "", "row", "Rows", "walls", "rows ", "spared", (), [], ("walls",), ("rows",),
                ("walls", 21), ("walls", -1), ("walls", True), ("walls", False), ("walls", None), ("walls", "1"),
                ("walls", (1, 1)), ("walls", 1, 1), ["walls", 1], ("wall", 1), (1, "walls"), (("walls", 1),),
                ("walls", [1]), ("walls", 10 ** 20), (("walls",), 1), ["rows"], ("rows", "rows")]
TRIANGLE = hull([(0, 0), (6, 0), (0, 6)])
FRAME = less(rectangle(0, 0, 6, 6), rectangle(2, 2, 4, 4))
# Between rings of strips, with a lone segment and a lone point at the ends of others.
THIN = joined(rectangle(0, 0, 2, 2), segment(2, 1, 5, 1), segment(5, 1, 5, 4), hull([(5, 4), (7, 4), (6, 6)]))


def strokes(*listed):
    """Strokes with integers and Fractions for numbers."""
    return [numbers(*stroke) for stroke in listed]


def slow_lines(c, v):
    found = []
    step = 2 * fraction(v)
    if c:
        most = int(max(abs(fraction(y)) for y in c.levels) / step) + 2
        for t in range(-most, most + 1):
            row = [(a, b) for a, b in c.row_at(number(t * step)) if a != b]
            if t % 2:
                found.extend((b, number(t * step), a, number(t * step)) for a, b in reversed(row))
            else:
                found.extend((a, number(t * step), b, number(t * step)) for a, b in row)
    return found


def touching(listed, one, other):
    """Whether a strip touches a stretch, by their numbers."""
    if listed[one][0] == listed[other][0]:
        return False
    strip, stretch = (listed[one], listed[other]) if listed[one][0] == "strip" else (listed[other], listed[one])
    _, y, low, high = stretch
    for height, a, b in ((strip[1], strip[3], strip[4]), (strip[2], strip[5], strip[6])):
        if y == height and fraction(low) <= fraction(a) and fraction(b) <= fraction(high):
            return True
    return False


class SlowTree:
    """The tree by its words, with visits within visits."""

    def __init__(self, c, v):
        self.listed, self.pitch = cells(c), 2 * fraction(v)
        self.begun, self.strokes = set(), []
        _, y, a, _ = self.listed[0]
        self.pen = (a, y)
        self.stretch(0)

    def draw(self, point):
        if point != self.pen:
            self.strokes.append(self.pen + point)
            self.pen = point

    def corner(self, strip, stretch):
        _, y0, y1, a, _, c, _ = self.listed[strip]
        return (a, y0) if self.listed[stretch][1] == y0 else (c, y1)

    def stretch(self, number_of):
        self.begun.add(number_of)
        _, y, a, b = self.listed[number_of]
        self.draw((a, y))
        self.draw((b, y))
        for other in range(len(self.listed)):
            if touching(self.listed, number_of, other) and other not in self.begun:
                self.draw(self.corner(other, number_of))
                self.strip(other, number_of)

    def strip(self, number_of, entered):
        self.begun.add(number_of)
        _, y0, y1, a, b, c, d = self.listed[number_of]
        begin = self.corner(number_of, entered)
        assert self.pen == begin
        for point in ((a, y0), (c, y1), (d, y1), (b, y0)):
            self.draw(point)
        low, high = fraction(y0), fraction(y1)
        t = int(low / self.pitch) - 2
        while t * self.pitch < high:
            if t * self.pitch > low:
                share = (t * self.pitch - low) / (high - low)
                for lower, upper in ((a, c), (b, d)):
                    x = fraction(lower) + share * (fraction(upper) - fraction(lower))
                    self.draw(numbers(x, t * self.pitch))
            t += 1
        for other in range(len(self.listed)):
            if touching(self.listed, number_of, other) and other != entered and other not in self.begun:
                self.draw(self.corner(number_of, other))
                self.stretch(other)
                self.draw(self.corner(number_of, other))
        self.draw(begin)


def slow_tree(c, v):
    if not c:
        return []
    found = SlowTree(c, v).strokes
    return found or [c.rows[0][0][:1] + c.levels[:1] + c.rows[0][0][:1] + c.levels[:1]]


def slow_spared(listed, h, v):
    """The words of the document, with all unions made anew; numbers instead of strokes tell equal ones apart."""
    left = list(range(len(listed)))
    whole = laid(listed, h, v)
    for k in range(len(listed)):
        others = [other for other in left if other != k]
        if laid([listed[other] for other in others], h, v) == whole:
            left = others
    return [listed[k] for k in left]


class RowsTest(unittest.TestCase):
    def test_a_rectangle(self):
        got = row_strokes(rectangle(0, 0, 4, 3), HALF, HALF)
        self.assertEqual(got, strokes((0, 0, 4, 0), (0, 0, 0, 3), (4, 0, 4, 3), (0, 3, 4, 3), (0, 0, 4, 0),
                                      (4, 1, 0, 1), (0, 2, 4, 2), (4, 3, 0, 3)))
        got = row_strokes(h=5, v=(2, 3), c=rectangle(0, HALF, 4, 3))
        self.assertEqual(got[4:], strokes((4, Fraction(4, 3), 0, Fraction(4, 3)),
                                          (0, Fraction(8, 3), 4, Fraction(8, 3))))

    def test_below_zero(self):
        got = row_strokes(rectangle(-1, (-7, 2), 1, (1, 2)), 1, HALF)
        self.assertEqual(got[4:], strokes((1, -3, -1, -3), (-1, -2, 1, -2), (1, -1, -1, -1), (-1, 0, 1, 0)))
        got = row_strokes(rectangle(0, -9, 1, -8), 1, 2)
        self.assertEqual(got[4:], strokes((0, -8, 1, -8)))
        self.assertEqual(row_strokes(rectangle(0, -5, 1, -4), 1, 1)[4:], strokes((0, -4, 1, -4)))
        self.assertEqual(row_strokes(rectangle(0, -5, 1, (-9, 2)), 1, 1)[4:], [])

    def test_several_stretches_on_a_line(self):
        two = joined(rectangle(0, 0, 1, 1), rectangle(2, 0, 3, 1), dot(5, 1), rectangle(6, 0, 7, 1))
        got = row_strokes(two, HALF, HALF)
        self.assertEqual(got[len(rim(two)):], strokes((0, 0, 1, 0), (2, 0, 3, 0), (6, 0, 7, 0), (7, 1, 6, 1),
                                                      (3, 1, 2, 1), (1, 1, 0, 1)))

    def test_triangles_segments_points_and_nothing(self):
        got = row_strokes(TRIANGLE, 1, 1)
        self.assertEqual(got, rim(TRIANGLE) + strokes((0, 0, 6, 0), (4, 2, 0, 2), (0, 4, 2, 4)))
        self.assertEqual(row_strokes(segment(0, 0, 4, 4), HALF, HALF), strokes((0, 0, 4, 4)))
        self.assertEqual(row_strokes(segment(0, 1, 4, 1), HALF, HALF), strokes((0, 1, 4, 1), (4, 1, 0, 1)))
        self.assertEqual(row_strokes(segment(0, HALF, 4, HALF), HALF, HALF),
                         strokes((0, Fraction(1, 2), 4, Fraction(1, 2))))
        self.assertEqual(row_strokes(dot(2, 3), HALF, HALF), strokes((2, 3, 2, 3)))
        self.assertEqual(row_strokes(joined(), HALF, HALF), [])

    def test_columns(self):
        got = column_strokes(rectangle(0, 0, 3, 4), HALF, 9)
        self.assertEqual(got, strokes((0, 0, 0, 4), (0, 0, 3, 0), (0, 4, 3, 4), (3, 0, 3, 4), (0, 0, 0, 4),
                                      (1, 4, 1, 0), (2, 0, 2, 4), (3, 4, 3, 0)))
        self.assertEqual(column_strokes(v=1, h=1, c=segment(2, 0, 2, 4)), strokes((2, 0, 2, 4), (2, 4, 2, 0)))
        self.assertEqual(column_strokes(joined(), 1, 1), [])
        self.assertEqual(column_strokes(dot((1, 3), -2), 1, 1), [((1, 3), (-2, 1), (1, 3), (-2, 1))])

    def test_random_patches(self):
        for seed in range(40):
            rng = random.Random(seed)
            c = random_shapes(rng, 4).patch
            h, v = rng.choice([HALF, 1, (1, 3)]), rng.choice([HALF, 1, (2, 3)])
            self.assertEqual(row_strokes(c, h, v), rim(c) + slow_lines(c, v))
            exchanged = rim(turned(c)) + slow_lines(turned(c), h)
            self.assertEqual(column_strokes(c, h, v), [(y0, x0, y1, x1) for x0, y0, x1, y1 in exchanged])


class RingsTest(unittest.TestCase):
    def test_shrunk(self):
        p = rectangle(0, 0, 5, 3)
        self.assertEqual(shrunk(p, HALF, HALF), [p, rectangle(HALF, HALF, (9, 2), (5, 2)), rectangle(1, 1, 4, 2),
                                                 segment((3, 2), (3, 2), (7, 2), (3, 2))])
        self.assertEqual(shrunk(v=1, h=1, c=p), [p, rectangle(1, 1, 4, 2)])
        self.assertEqual(shrunk(p, 2, 2), [p])
        self.assertEqual(shrunk(dot(1, 1), 1, 1), [dot(1, 1)])
        self.assertEqual(shrunk(joined(), 1, 1), [])
        self.assertEqual(shrunk(rectangle(0, 0, 4, 4), 1, 1)[2], dot(2, 2))

    def test_ring_strokes(self):
        p = rectangle(0, 0, 4, 4)
        self.assertEqual(ring_strokes(p, 1, 1), rim(p) + rim(rectangle(1, 1, 3, 3)) + strokes((2, 2, 2, 2)))
        self.assertEqual(ring_strokes(c=FRAME, h=HALF, v=1),
                         [stroke for c in shrunk(FRAME, HALF, 1) for stroke in rim(c)])
        self.assertEqual(ring_strokes(joined(), 1, 1), [])

    def test_walls(self):
        p = rectangle(0, 0, 6, 6)
        one, two, three = rectangle(1, 1, 5, 5), rectangle(2, 2, 4, 4), dot(3, 3)
        wanted = {0: row_strokes(p, 1, 1), 1: rim(p) + row_strokes(one, 1, 1),
                  2: rim(p) + rim(one) + row_strokes(two, 1, 1),
                  3: rim(p) + rim(one) + rim(two) + row_strokes(three, 1, 1),
                  4: rim(p) + rim(one) + rim(two) + rim(three)}
        for walls in range(21):
            self.assertEqual(wall_strokes(p, 1, 1, walls), wanted[min(walls, 4)])
            self.assertEqual(wall_strokes(joined(), 1, 1, walls), [])
        self.assertEqual(wall_strokes(walls=2, v=1, h=1, c=p), wanted[2])
        self.assertEqual(wall_strokes(p, 1, 2, 1), rim(p) + row_strokes(rectangle(1, 2, 5, 4), 1, 2))


class TreeTest(unittest.TestCase):
    def test_a_rectangle(self):
        self.assertEqual(tree_strokes(rectangle(0, 0, 2, 2), HALF, HALF), strokes(
            (0, 0, 2, 0), (2, 0, 0, 0), (0, 0, 0, 2), (0, 2, 2, 2), (2, 2, 2, 0), (2, 0, 0, 1), (0, 1, 2, 1),
            (2, 1, 0, 2), (0, 2, 2, 2), (2, 2, 0, 2), (0, 2, 0, 0)))
        self.assertEqual(tree_strokes(v=5, h=5, c=rectangle(0, 0, 2, 2)), strokes(
            (0, 0, 2, 0), (2, 0, 0, 0), (0, 0, 0, 2), (0, 2, 2, 2), (2, 2, 2, 0), (2, 0, 0, 2), (0, 2, 2, 2),
            (2, 2, 0, 2), (0, 2, 0, 0)))

    def test_segments_points_and_nothing(self):
        self.assertEqual(tree_strokes(segment(0, 0, 4, 0), 1, 1), strokes((0, 0, 4, 0)))
        self.assertEqual(tree_strokes(segment(1, 0, 1, 3), 1, 1), strokes(
            (1, 0, 1, 3), (1, 3, 1, 0), (1, 0, 1, 2), (1, 2, 1, 3), (1, 3, 1, 0)))
        self.assertEqual(tree_strokes(dot(2, HALF), 1, 1), strokes((2, Fraction(1, 2), 2, Fraction(1, 2))))
        self.assertEqual(tree_strokes(joined(), 1, 1), [])

    def test_a_triangle(self):
        self.assertEqual(tree_strokes(hull([(0, 0), (4, 0), (0, 4)]), 1, 1), strokes(
            (0, 0, 4, 0), (4, 0, 0, 0), (0, 0, 0, 4), (0, 4, 4, 0), (4, 0, 0, 2), (0, 2, 2, 2), (2, 2, 0, 4),
            (0, 4, 0, 0)))

    def test_a_chain_through_all_cells(self):
        for c in (FRAME, THIN, TRIANGLE):
            got = tree_strokes(c, HALF, HALF)
            self.assertEqual(got, slow_tree(c, HALF))
            for one, other in zip(got, got[1:]):
                self.assertEqual(one[2:], other[:2])
            for x0, y0, x1, y1 in got:
                self.assertNotEqual((x0, y0), (x1, y1))

    def test_random_patches(self):
        for seed in range(50):
            rng = random.Random(seed)
            v = rng.choice([HALF, 1, (2, 3), (1, 5)])
            for c in parts(random_shapes(rng, 7).patch):
                self.assertEqual(tree_strokes(c, HALF, v), slow_tree(c, v))

    def test_more_cells_than_calls_can_be_nested(self):
        corners = [(k, k % 2) for k in range(1500)]
        comb = joined(*[segment(*one, *other) for one, other in zip(corners, corners[1:])])
        stair = joined(*[rectangle(k, k, k + 2, k + 1) for k in range(700)])
        for c in (comb, stair):
            got = tree_strokes(c, HALF, HALF)
            self.assertEqual(got[0][:2], (c.rows[0][0][0], c.levels[0]))
            self.assertGreater(len(got), 2000)


class CoverTest(unittest.TestCase):
    """Of all fillings: all strokes lie within the patch, and their sweeps are the patch grown by the foot."""

    def check(self, c, h, v, fillings):
        wanted = grown(c, h, v)
        for filling in fillings:
            got = strokes_of(c, h, v, filling)
            self.assertIsInstance(got, list)
            for stroke in got:
                self.assertTrue(within(segment(*stroke), c), filling)
            self.assertEqual(laid(got, h, v), wanted, filling)

    def test_shapes(self):
        shapes = [rectangle(0, 0, 5, 3), TRIANGLE, segment(0, 0, 3, 5), segment(0, HALF, 5, HALF), segment(1, 0, 1, 7),
                  dot((1, 3), 2), FRAME, THIN]
        for c in shapes:
            self.check(c, HALF, HALF, WORDS + (("walls", 0), ("walls", 1), ("walls", 3), ("walls", 20)))
            self.check(c, (1, 3), 2, WORDS + (("walls", 2),))

    def test_several_parts_and_nothing(self):
        several = joined(rectangle(0, 0, 3, 3), segment(4, 0, 6, 3), dot(8, 1), rectangle(0, 5, 7, 8))
        self.check(several, HALF, HALF, ("rows", "columns", "rings", "spare", ("walls", 1), ("walls", 2)))
        for filling in WORDS + tuple(("walls", walls) for walls in range(21)):
            self.assertEqual(strokes_of(joined(), HALF, HALF, filling), [])
        self.assertEqual(laid([], HALF, HALF), joined())

    def test_random_patches(self):
        for seed in range(25):
            rng = random.Random(seed)
            c = random_shapes(rng, 4).patch
            h, v = rng.choice([HALF, 1, (2, 3)]), rng.choice([HALF, 1, (1, 3)])
            self.check(c, h, v, ("rows", "columns", "rings", ("walls", rng.randint(0, 4))))
            for part in parts(c):
                self.check(part, h, v, ("tree",))
            if seed < 8:
                self.check(c, h, v, ("spare",))


class SparedTest(unittest.TestCase):
    def test_of_equal_strokes_the_later_one_stays(self):
        a, b = strokes((0, 0, 4, 0), (0, 9, 4, 9))
        self.assertEqual(spared([a, b, a], HALF, HALF), [b, a])
        self.assertEqual(spared([a, a, a], HALF, HALF), [a])
        back = strokes((4, 0, 0, 0))[0]
        self.assertEqual(spared([a, back], HALF, HALF), [back])
        self.assertEqual(spared([back, a], HALF, HALF), [a])

    def test_what_is_struck(self):
        long, short, left, right = strokes((0, 0, 4, 0), (1, 0, 3, 0), (0, 0, 2, 0), (2, 0, 4, 0))
        self.assertEqual(spared([short, long], 1, 1), [long])
        self.assertEqual(spared([long, short], 1, 1), [long])
        self.assertEqual(spared([long, left, right], 1, 1), [left, right])
        self.assertEqual(spared([left, right, long], 1, 1), [long])
        self.assertEqual(spared([left, long, right], 1, 1), [long])
        self.assertEqual(spared(h=1, v=1, strokes=(left, right)), [left, right])
        apart = strokes((0, 0, 1, 0), (3, 0, 4, 0))
        self.assertEqual(spared(apart + [long], (1, 2), 1), [long])
        self.assertEqual(spared([long] + apart, 1, 1), apart)
        self.assertEqual(spared([long] + apart, (99, 100), 1), [long])
        self.assertEqual(spared([], 1, 1), [])
        given = [long, left, right]
        spared(given, 1, 1)
        self.assertEqual(given, [long, left, right])

    def test_the_one_that_is_covered_by_several(self):
        rows = strokes(*[(0, y, 4, y) for y in range(5)])
        middle = strokes((2, 0, 2, 4))
        self.assertEqual(spared(middle + rows, HALF, HALF), rows)
        self.assertEqual(spared(rows + middle, HALF, HALF), rows)
        self.assertEqual(spared(middle + rows, HALF, (49, 100)), middle + rows)

    def test_row_strokes(self):
        c = rectangle(0, 0, 4, 3)
        got = strokes_of(c, HALF, HALF, "spare")
        self.assertEqual(got, slow_spared(row_strokes(c, HALF, HALF), HALF, HALF))
        self.assertEqual(got, strokes((0, 0, 4, 0), (4, 1, 0, 1), (0, 2, 4, 2), (4, 3, 0, 3)))

    def test_random_strokes(self):
        for seed in range(40):
            rng = random.Random(seed)
            listed = []
            for _ in range(rng.randint(1, 9)):
                x, y = rng.randint(0, 4), rng.randint(0, 4)
                stroke = (x, y, x, y + rng.randint(0, 3)) if rng.random() < 0.5 else (x, y, x + rng.randint(0, 3), y)
                if rng.random() < 0.2:
                    stroke = (x, y, rng.randint(0, 4), rng.randint(0, 4))
                listed.extend(strokes(stroke))
            self.assertEqual(spared(listed, 1, HALF), slow_spared(listed, 1, HALF))

    def test_laid(self):
        a, b = strokes((0, 0, 4, 0), (2, 2, 2, 2))
        self.assertEqual(laid(strokes=[a, b], h=1, v=HALF), joined(rectangle(-1, (-1, 2), 5, HALF),
                                                                   rectangle(1, (3, 2), 3, (5, 2))))
        self.assertEqual(laid((a,), 1, 1), grown(segment(0, 0, 4, 0), 1, 1))


class StrokesOfTest(unittest.TestCase):
    def test_words(self):
        c = joined(rectangle(0, 0, 5, 4), segment(5, 1, 8, 2))
        acts = {"rows": row_strokes, "columns": column_strokes, "rings": ring_strokes, "tree": tree_strokes}
        for word, act in acts.items():
            self.assertEqual(strokes_of(c, HALF, 1, word), act(c, HALF, 1))
        self.assertEqual(strokes_of(c, HALF, 1, "spare"), spared(row_strokes(c, HALF, 1), HALF, 1))
        for walls in (0, 1, 2, 20):
            self.assertEqual(strokes_of(filling=("walls", walls), v=1, h=HALF, c=c), wall_strokes(c, HALF, 1, walls))

    def test_bad_fillings(self):
        for c in (rectangle(0, 0, 1, 1), joined()):
            for filling in BAD_FILLINGS:
                with self.assertRaises(BadFilling) as held:
                    strokes_of(c, HALF, HALF, filling)
                self.assertIs(held.exception.filling, filling)

    def test_lists_are_new(self):
        c = rectangle(0, 0, 2, 2)
        for filling in WORDS + (("walls", 1),):
            first = strokes_of(c, HALF, HALF, filling)
            wanted = list(first)
            first.clear()
            self.assertEqual(strokes_of(c, HALF, HALF, filling), wanted)
        self.assertEqual(drawn_in(c, HALF, HALF), shrunk(c, HALF, HALF)[1])


if __name__ == "__main__":
    unittest.main()
