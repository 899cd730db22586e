import random
import unittest

from mostlaid.errors import BadLayers, NoProp
from mostlaid.feet import grown
from mostlaid.greatest import greatest
from mostlaid.measures import parts
from mostlaid.patches import dot, rectangle, segment
from mostlaid.props import hanging_without, islands, load, props
from mostlaid.rings import hull
from mostlaid.sets import joined, less, within
from mostlaid.setups import Setup, Wanted, checked_standing

from tests import grid
from tests.bodies import (BEAM_RASTER, BED, EMPTY, HALF, LEFT, POSTS, RIGHT, SQUARE, WRONG_STANDINGS, foot_at,
                          random_grid_case, two_layers)
from tests.makers import random_shapes
from tests.reference import numbers

BEAM = rectangle(0, 0, 4, 1)
NO_PLACES = [None, True, 0, "", "ab", (), [], (1,), (1, 2, 3), [(7, 2), (1, 2)], ((7, 2), True), ((14, 4), (1, 2)),
             (None, None), ((7, 2), (1, 2), 0), ((7, 2), "1/2"), ((HALF, (7, 2)),), (3, (1, 2)), ((1, 2), (7, 2)),
             ((-7, 2), (1, 2)), (((7, 2), (1, 2)),), (0, 0), (False, False)]


def beam(reach, **more):
    return two_layers(LEFT, BEAM, reach=reach, raster=BEAM_RASTER, **more)


def bearing(setup, stuff, points):
    """What the body of a layer and rectangles at points can bear."""
    stands = [foot_at(setup, *point) for point in points]
    return grown(joined(stuff, *stands), *setup.reach)


class PropsTest(unittest.TestCase):
    def test_the_beam(self):
        self.assertEqual(props(beam((0, 0))), ((((3, 2), HALF), ((5, 2), HALF), ((7, 2), HALF)), ()))
        self.assertEqual(props(wanted=beam((1, 1)), standing=None), ((((7, 2), HALF),), ()))
        self.assertEqual(props(two_layers(LEFT, BEAM)), ((), ()))

    def test_props_are_struck_by_y_and_then_by_x(self):
        raster = [(HALF, HALF), (HALF, (3, 2)), (1, HALF), ((3, 2), HALF), ((3, 2), (3, 2))]
        wanted = two_layers(EMPTY, SQUARE, raster=raster)
        self.assertEqual(greatest(wanted).body[1], SQUARE)
        self.assertEqual(props(wanted)[0], (((1, 2), (1, 2)), ((3, 2), (1, 2)), ((1, 2), (3, 2)), ((3, 2), (3, 2))))
        row = [(HALF, HALF), (1, HALF), ((3, 2), HALF)]
        wanted = two_layers(EMPTY, rectangle(0, 0, 2, 1), raster=row)
        self.assertEqual(props(wanted)[0], (((1, 2), (1, 2)), ((3, 2), (1, 2))))
        wanted = two_layers(EMPTY, rectangle(0, 0, 1, 1), raster=[(HALF, HALF)] + row, reach=(1, 0))
        self.assertEqual(props(wanted)[0], (((3, 2), (1, 2)),))
        column = [(HALF, 1), (1, HALF), (1, (3, 2))]
        wanted = two_layers(EMPTY, rectangle(HALF, HALF, (3, 2), (3, 2)), raster=column, reach=(HALF, HALF))
        self.assertEqual(props(wanted)[0], (((1, 1), (3, 2)),))

    def test_props_below_props(self):
        three = Wanted(Setup([0, 1, 2, 3], BED, raster=[(HALF, HALF), (5, 5)]), [EMPTY, EMPTY, LEFT])
        place = ((HALF, HALF),)
        self.assertEqual(props(three), (place, place, ()))
        self.assertEqual(load(three, 1), LEFT)
        self.assertEqual(load(three, 2), LEFT)
        self.assertEqual(load(three, 3), EMPTY)
        standing = [EMPTY, LEFT, EMPTY]
        self.assertEqual(props(three, standing), ((), (), ()))
        standing = [LEFT, EMPTY, EMPTY]
        self.assertEqual(props(three, standing), ((), place, ()))

    def test_the_top_layer_has_no_props(self):
        one = Wanted(Setup([0, 1], BED, raster=[(5, 5)]), [LEFT])
        self.assertEqual(greatest(one).prop_places, ((numbers(5, 5),),))
        self.assertEqual(props(one), ((),))
        self.assertEqual(load(one, 1), EMPTY)

    def test_what_stands_already_is_no_load(self):
        wanted = beam((0, 0))
        standing = [LEFT, BEAM]
        self.assertEqual(props(wanted, standing), ((), ()))
        self.assertEqual(load(wanted, 1, standing), EMPTY)
        self.assertEqual(props(wanted, [BEAM, EMPTY]), ((), ()))
        self.assertEqual(props(wanted, [rectangle(0, 0, 3, 1), EMPTY]), ((((7, 2), HALF),), ()))

    def test_islands(self):
        found = islands(two_layers(POSTS, joined(POSTS, rectangle(9, 9, 19, 19))))
        self.assertIsInstance(found, tuple)
        self.assertIsInstance(found[0], list)
        self.assertEqual(found, ([dot(HALF, HALF), dot((5, 2), HALF)], [dot(HALF, HALF), dot((5, 2), HALF)]))
        found = islands(wanted=two_layers(POSTS, EMPTY), standing=[RIGHT, EMPTY])
        self.assertEqual(found, ([dot(HALF, HALF)], []))
        part = islands(two_layers(rectangle(0, 0, 4, 1), EMPTY), [rectangle(0, 0, 3, 1), EMPTY])
        self.assertEqual(part, ([segment(HALF, HALF, (7, 2), HALF)], []))

    def test_islands_by_their_first_points(self):
        low, right = rectangle(5, 0, 6, 1), rectangle(8, 0, 9, 1)
        left = rectangle(0, HALF, 1, 3)
        found = islands(two_layers(joined(left, right, low), EMPTY))[0]
        self.assertEqual(found, [dot((11, 2), HALF), dot((17, 2), HALF), segment(HALF, 1, HALF, (5, 2))])

    def test_islands_with_one_point_in_common_are_one(self):
        corner = joined(rectangle(0, 0, 2, 2), rectangle(1, 1, 3, 3))
        found = islands(two_layers(corner, EMPTY))[0]
        self.assertEqual(found, [joined(rectangle(HALF, HALF, (3, 2), (3, 2)), rectangle((3, 2), (3, 2), (5, 2), (5, 2)))])

    def test_load(self):
        self.assertEqual(load(beam((0, 0)), 1), BEAM)
        self.assertEqual(load(beam((0, 0)), 2), EMPTY)
        self.assertEqual(load(wanted=two_layers(LEFT, BEAM, reach=(1, 1)), layer=1, standing=None), rectangle(0, 0, 2, 1))
        standing = [EMPTY, rectangle(0, 0, 2, 1)]
        self.assertEqual(greatest(beam((0, 0)), standing).body[0], EMPTY)
        self.assertEqual(load(beam((0, 0)), 1, standing), rectangle(2, 0, 4, 1))


class HangingTest(unittest.TestCase):
    def test_each_prop_is_needed(self):
        wanted = beam((0, 0))
        for k, place in enumerate(props(wanted)[0]):
            got = hanging_without(wanted, 1, place)
            self.assertEqual(got, rectangle(k + 1, 0, k + 2, 1))
        got = hanging_without(wanted=beam((1, 1)), layer=1, place=((7, 2), HALF), standing=None)
        self.assertEqual(got, rectangle(2, 0, 4, 1))

    def test_whole_numbers_as_places(self):
        wanted = two_layers(EMPTY, rectangle(HALF, HALF, (3, 2), (3, 2)), raster=[(1, 1)])
        for place in ((1, 1), ((1, 1), 1), ((1, 1), (1, 1))):
            self.assertEqual(hanging_without(wanted, 1, place), rectangle(HALF, HALF, (3, 2), (3, 2)))

    def test_no_prop(self):
        for reach, more in (((1, 1), [((3, 2), HALF), ((5, 2), HALF)]), ((0, 0), [])):
            wanted = beam(reach)
            for place in NO_PLACES + more + [(HALF, HALF), (9, 9)]:
                with self.assertRaises(NoProp) as held:
                    hanging_without(wanted, 1, place)
                self.assertEqual(held.exception.layer, 1)
                self.assertIs(held.exception.point, place)
            with self.assertRaises(NoProp) as held:
                hanging_without(wanted, 2, ((7, 2), HALF))
            self.assertEqual((held.exception.layer, held.exception.point), (2, ((7, 2), HALF)))


class StandingsTest(unittest.TestCase):
    def test_wrong_standings(self):
        wanted = beam((0, 0))
        for standing, layer in WRONG_STANDINGS:
            for act in (lambda value: props(wanted, value), lambda value: islands(wanted, value),
                        lambda value: load(wanted, 1, value), lambda value: hanging_without(wanted, 1, None, value),
                        lambda value: hanging_without(wanted, 1, ((7, 2), HALF), value)):
                with self.assertRaises(BadLayers) as held:
                    act(standing)
                self.assertEqual(held.exception.layer, layer)

    def test_lists_and_tuples(self):
        wanted = beam((0, 0))
        for standing in (None, [EMPTY, EMPTY], (EMPTY, EMPTY)):
            self.assertEqual(props(wanted, standing), props(wanted))
            self.assertEqual(islands(wanted, standing), islands(wanted))
            self.assertEqual(load(wanted, 1, standing), load(wanted, 1))
        standing = [LEFT, EMPTY]
        props(wanted, standing)
        self.assertEqual(standing, [LEFT, EMPTY])
        first = islands(wanted)
        first[0].clear()
        self.assertEqual(islands(wanted)[0], [dot(HALF, HALF)])


class ModelTest(unittest.TestCase):
    def test_against_cells(self):
        many = 0
        for seed in range(30):
            rng = random.Random(1000 + seed)
            wanted, standing = random_grid_case(rng, rng.choice((2, 3)), 20)
            wanted = Wanted(wanted.setup, [rng.choice((p, EMPTY)) for p in wanted.slices[:-1]] + [wanted.slices[-1]])
            model = grid.Model(wanted, standing)
            loads, wished = model.settle()
            found = props(wanted, standing)
            many += sum(len(points) for points in found)
            self.assertEqual([[(grid.quarters(x), grid.quarters(y)) for x, y in points] for points in found], wished)
            for layer in range(1, len(standing) + 1):
                self.assertEqual(grid.cells_of(load(wanted, layer, standing)), loads[layer - 1])
                self.assertEqual([grid.cells_of(part) for part in islands(wanted, standing)[layer - 1]],
                                 model.islands(layer))
                for place in found[layer - 1]:
                    others = [point for point in wished[layer - 1] if point != tuple(grid.quarters(x) for x in place)]
                    got = hanging_without(wanted, layer, place, standing)
                    self.assertTrue(got)
                    self.assertEqual(grid.cells_of(got), grid.less(loads[layer - 1], model.bearing(layer, others)))
        self.assertGreater(many, 15)


class DefinitionTest(unittest.TestCase):
    def random_case(self, rng):
        raster = [(rng.randint(-4, 5), rng.randint(-4, 5)) for _ in range(14)]
        setup = Setup([0, 1, (3, 2), 2], (-5, -5, 6, 6), foot=rng.choice([(HALF, HALF), (1, HALF)]), carriage=(2, 1),
                      gap=rng.choice((0, 1)), reach=rng.choice([(0, 0), (HALF, 1)]), raster=raster)
        slices = [joined(), hull([(0, 0), (3, 1), (1, 4)]),
                  joined(*[strip_of(random_shapes(rng, 3).patch, k) for k in range(2)])]
        slices[2] = joined(slices[2], rectangle(-3, -3, 3, 3))
        return Wanted(setup, slices)

    def test_by_the_words(self):
        many = 0
        for seed in range(9):
            rng = random.Random(seed)
            wanted = self.random_case(rng)
            setup = wanted.setup
            standing = checked_standing(setup, [rectangle(-4, -4, -2, 0), EMPTY, EMPTY] if seed % 2 else None)
            best, found = greatest(wanted, standing), props(wanted, standing)
            above, listed = EMPTY, islands(wanted, standing)
            for layer in (3, 2, 1):
                self.assertEqual(load(wanted, layer, standing), above)
                left = list(best.prop_places[layer - 1])
                for point in best.prop_places[layer - 1]:
                    others = [other for other in left if other != point]
                    if within(above, bearing(setup, best.body[layer - 1], others)):
                        left = others
                self.assertEqual(found[layer - 1], tuple(left))
                self.assertTrue(within(above, bearing(setup, best.body[layer - 1], left)))
                for point in left:
                    others = [other for other in left if other != point]
                    got = hanging_without(wanted, layer, point, standing)
                    self.assertEqual(got, less(above, bearing(setup, best.body[layer - 1], others)))
                    self.assertTrue(got)
                    many += 1
                wished = [part for part in parts(best.places[layer - 1])
                          if not within(grown(part, *setup.foot), standing[layer - 1])]
                self.assertEqual(listed[layer - 1], wished)
                stands = [foot_at(setup, *point) for point in left]
                above = joined(*[grown(part, *setup.foot) for part in wished], *stands)
        self.assertGreater(many, 15)


def strip_of(p, k):
    """The hull of a strip of a patch; it is full, or empty."""
    strips = [strip for strip in p.strips() if strip[2][0] != strip[2][1] or strip[2][2] != strip[2][3]]
    if len(strips) <= k:
        return joined()
    y0, y1, (a, b, c, d) = strips[k]
    return hull([(a, y0), (b, y0), (c, y1), (d, y1)])


if __name__ == "__main__":
    unittest.main()
