import random
import unittest
from fractions import Fraction

from mostlaid.errors import BadLayers
from mostlaid.feet import drawn_in, grown
from mostlaid.fillings import laid
from mostlaid.greatest import Greatest, greatest, greatest_behind, is_barred, kept, left_out, lost, lost_layer
from mostlaid.measures import size
from mostlaid.patches import dot, rectangle, segment
from mostlaid.ratios import minus, plus
from mostlaid.rings import hull, of_rings
from mostlaid.sets import common, full, insides_meet, joined, less, within
from mostlaid.setups import Setup, Wanted

from tests import grid
from tests.bodies import (BEAM_RASTER, BED, EMPTY, HALF, LEFT, POSTS, RIGHT, SQUARE, WRONG_STANDINGS, foot_at, one_layer,
                          random_grid_case, two_layers)
from tests.makers import random_shapes
from tests.reference import NEAR, directions_of, form_faults, fraction, has, near, numbers, own_samples


def slow_barred(setup, begun, layer, x, y):
    """The touch rules for a part that stays at a place, layer by layer."""
    tip = setup.heights[layer]
    for upper, stuff in zip(setup.heights[1:], begun):
        if number_below(tip, upper) and insides_meet(foot_at(setup, x, y), stuff):
            return True
        if number_below(plus(tip, setup.gap), upper) and insides_meet(foot_at(setup, x, y, setup.carriage), stuff):
            return True
    return False


def number_below(a, b):
    return minus(b, a)[0] > 0


class ExamplesTest(unittest.TestCase):
    def test_the_triangle(self):
        found = greatest(one_layer(of_rings([[(0, 0), (6, 0), (0, 6)]])))
        self.assertEqual(found.places, (hull([(HALF, HALF), ((9, 2), HALF), (HALF, (9, 2))]),))
        self.assertEqual(found.body, (of_rings([[(0, 0), (5, 0), (5, 1), (1, 5), (0, 5)]]),))
        self.assertEqual(size(found.body[0]), (17, 1))
        self.assertEqual(found.grounds, (rectangle(*BED),))
        self.assertEqual(found.roof, found.body)
        self.assertEqual(found.prop_places, ((),))

    def test_a_wall_as_wide_as_the_foot(self):
        found = greatest(one_layer(rectangle(0, 0, 4, 1)))
        self.assertEqual(found.places, (segment(HALF, HALF, (7, 2), HALF),))
        self.assertEqual(found.body, (rectangle(0, 0, 4, 1),))

    def test_two_posts(self):
        for gap in (0, HALF, 1):
            wanted = two_layers(POSTS, POSTS, carriage=(2, HALF), gap=gap)
            found = greatest(wanted)
            self.assertEqual(found.body, (POSTS, POSTS))
            self.assertEqual(found.places, (joined(dot(HALF, HALF), dot((5, 2), HALF)),) * 2)

    def test_two_posts_and_a_stranger(self):
        stranger = [LEFT, LEFT]
        found = greatest(two_layers(POSTS, POSTS, carriage=(2, HALF), gap=HALF), stranger)
        self.assertEqual(found.body, (LEFT, LEFT))
        self.assertEqual(found.places[0], EMPTY)
        found = greatest(two_layers(POSTS, POSTS, carriage=(2, HALF), gap=1), stranger)
        self.assertEqual(found.body, (POSTS, POSTS))
        found = greatest(two_layers(POSTS, POSTS, gap=HALF), stranger)
        self.assertEqual(found.body, (POSTS, POSTS))
        self.assertEqual(found.places[0], dot((5, 2), HALF))

    def test_a_post_and_a_beam(self):
        beam = rectangle(0, 0, 4, 1)
        for reach, raster, wanted in (((0, 0), [], 1), ((0, 0), BEAM_RASTER, 4), ((1, 1), [], 2),
                                      ((1, 1), BEAM_RASTER, 4)):
            found = greatest(two_layers(LEFT, beam, reach=reach, raster=raster))
            self.assertEqual(size(found.body[1]), (wanted, 1))
            self.assertEqual(found.body[0], LEFT)
            points = tuple(numbers(fraction(x), fraction(y)) for x, y in raster[1:])
            self.assertEqual(found.prop_places, (points, ()))
            self.assertEqual(found.roof[0], joined(LEFT, rectangle(1, 0, 4, 1)) if raster else LEFT)


class BodyTest(unittest.TestCase):
    def test_attributes(self):
        wanted = two_layers(SQUARE, SQUARE)
        for found in (greatest(wanted), greatest(wanted=wanted, standing=None)):
            self.assertIsInstance(found, Greatest)
            for value in (found.grounds, found.places, found.body, found.prop_places, found.roof):
                self.assertIsInstance(value, tuple)
                self.assertEqual(len(value), 2)

    def test_the_bed_is_the_first_ground(self):
        slice_of = rectangle(-3, -3, 25, 3)
        found = greatest(one_layer(slice_of))
        self.assertEqual(found.grounds[0], rectangle(0, 0, 20, 20))
        self.assertEqual(found.body[0], rectangle(0, 0, 20, 3))
        small = Wanted(Setup([0, 1], (0, 0, (9, 10), 5)), [rectangle(0, 0, 5, 5)])
        self.assertEqual(greatest(small).body, (EMPTY,))
        tight = Wanted(Setup([0, 1], (0, 0, 1, 5)), [rectangle(-1, 0, 5, 5)])
        self.assertEqual(greatest(tight).places, (segment(HALF, HALF, HALF, (9, 2)),))

    def test_grounds_by_reach(self):
        low, high = rectangle(4, 4, 8, 8), rectangle(0, 0, 12, 12)
        for reach, ground in (((0, 0), low), ((1, 0), rectangle(3, 4, 9, 8)), ((0, HALF), rectangle(4, (7, 2), 8, (17, 2))),
                              ((2, 3), rectangle(2, 1, 10, 11))):
            found = greatest(two_layers(low, high, reach=reach))
            self.assertEqual(found.grounds[1], ground)
            self.assertEqual(found.body[1], ground)
        three = Wanted(Setup.even(3, BED), [low, high, high])
        self.assertEqual(greatest(three).body, (low, low, low))
        three = Wanted(Setup([0, 1, 2, 3], BED, reach=(1, 0)), [low, high, high])
        self.assertEqual(greatest(three).body, (low, rectangle(3, 4, 9, 8), rectangle(2, 4, 10, 8)))

    def test_what_hangs_bears(self):
        found = greatest(two_layers(EMPTY, SQUARE), [EMPTY, EMPTY])
        self.assertEqual(found.body, (EMPTY, EMPTY))
        three = Wanted(Setup.even(3, BED), [EMPTY, EMPTY, SQUARE])
        found = greatest(three, [EMPTY, SQUARE, EMPTY])
        self.assertEqual(found.body, (EMPTY, SQUARE, SQUARE))
        self.assertEqual(found.places, (EMPTY, EMPTY, rectangle(HALF, HALF, (3, 2), (3, 2))))

    def test_what_stands_above_bars_the_foot(self):
        hanging = rectangle(4, 0, 5, 3)
        found = greatest(two_layers(rectangle(0, 0, 9, 3), EMPTY), [EMPTY, hanging])
        self.assertEqual(found.places[0], joined(rectangle(HALF, HALF, (7, 2), (5, 2)),
                                                 rectangle((11, 2), HALF, (17, 2), (5, 2))))
        self.assertEqual(found.body, (joined(rectangle(0, 0, 4, 3), rectangle(5, 0, 9, 3)), hanging))

    def test_passages(self):
        for right, places in ((5, segment((9, 2), HALF, (9, 2), (5, 2))), ((49, 10), EMPTY),
                              ((51, 10), rectangle((9, 2), HALF, (23, 5), (5, 2)))):
            walls = joined(rectangle(0, 0, 4, 3), rectangle(right, 0, 9, 3))
            found = greatest(two_layers(rectangle(0, 0, 9, 3), EMPTY), [EMPTY, walls])
            self.assertEqual(found.places[0], places)

    def test_a_carriage_and_its_gap(self):
        p = rectangle(0, 0, 9, 1)
        tower = [EMPTY, rectangle(8, 0, 9, 1), rectangle(8, 0, 9, 1)]
        for gap, right in ((0, 6), ((1, 2), 6), (1, 6), ((3, 2), 6), (2, 8), (3, 8), ((199, 100), 6)):
            setup = Setup([0, 1, 2, 3], BED, carriage=((5, 2), HALF), gap=gap)
            found = greatest(Wanted(setup, [p, EMPTY, EMPTY]), tower)
            self.assertEqual(found.body[0], rectangle(0, 0, right, 1))

    def test_a_carriage_that_passes_two_walls(self):
        walls = joined(rectangle(0, 0, 1, 3), rectangle(5, 0, 6, 3))
        for wide, places in ((2, segment(3, HALF, 3, (5, 2))), ((21, 10), EMPTY),
                             ((3, 2), rectangle((5, 2), HALF, (7, 2), (5, 2)))):
            found = greatest(two_layers(rectangle(0, 0, 6, 3), EMPTY, carriage=(wide, HALF)), [EMPTY, walls])
            self.assertEqual(found.places[0], places)

    def test_loose_stuff_stays_in_the_body(self):
        far = rectangle(15, 15, 16, 16)
        found = greatest(two_layers(SQUARE, SQUARE), [far, rectangle(30, 0, 31, 1)])
        self.assertEqual(found.body, (joined(SQUARE, far), joined(SQUARE, rectangle(30, 0, 31, 1))))
        self.assertEqual(kept(two_layers(SQUARE, SQUARE), [far, far]), (SQUARE, SQUARE))

    def test_prop_places(self):
        raster = [(1, 1), (3, 1), ((5, 2), 1), (2, 5), (19, 19), ((39, 2), (39, 2)), (20, 5)]
        wanted = two_layers(SQUARE, SQUARE, raster=raster)
        places = greatest(wanted).prop_places
        self.assertEqual(places[0], (numbers(fraction((5, 2)), 1), numbers(3, 1), numbers(2, 5), numbers(19, 19),
                                     numbers(fraction((39, 2)), fraction((39, 2)))))
        self.assertEqual(places[1], places[0])
        stuff = foot_at(wanted.setup, 3, 1)
        places = greatest(wanted, [stuff, EMPTY]).prop_places
        self.assertNotIn(numbers(3, 1), places[0])
        self.assertIn(numbers(3, 1), places[1])
        self.assertIn(numbers(fraction((5, 2)), 1), places[0])
        places = greatest(wanted, [EMPTY, rectangle(2, 4, 3, 5)]).prop_places
        self.assertNotIn(numbers(2, 5), places[0])

    def test_prop_places_stand_on_prop_places_or_on_the_body(self):
        three = Wanted(Setup.even(3, BED), [EMPTY] * 3)
        raster = [(HALF, HALF), (1, HALF)]
        wanted = Wanted(Setup([0, 1, 2, 3], BED, raster=raster), [LEFT, EMPTY, EMPTY])
        self.assertEqual(greatest(wanted).prop_places, ((), (numbers(fraction(HALF), fraction(HALF)),), (numbers(fraction(HALF), fraction(HALF)),)))
        self.assertEqual(greatest(three).prop_places, ((), (), ()))

    def test_kept_and_left_out(self):
        triangle = of_rings([[(0, 0), (6, 0), (0, 6)]])
        wanted = one_layer(triangle)
        body = of_rings([[(0, 0), (5, 0), (5, 1), (1, 5), (0, 5)]])
        self.assertEqual(kept(wanted), (body,))
        self.assertEqual(left_out(wanted), (less(triangle, body),))
        self.assertEqual(size(left_out(wanted=wanted, standing=None)[0]), (1, 1))
        corner = rectangle(5, 0, 7, 1)
        self.assertEqual(kept(wanted, [corner]), (joined(body, common(triangle, corner)),))
        self.assertEqual(size(left_out(wanted, [corner])[0]), (1, 2))
        touching = one_layer(joined(LEFT, RIGHT))
        self.assertEqual(kept(touching, [rectangle(1, 0, 2, 1)]), (POSTS,))
        beside = one_layer(LEFT)
        self.assertEqual(kept(beside, [rectangle(1, 0, 2, 1)]), (LEFT,))

    def test_lost(self):
        wanted = two_layers(POSTS, POSTS, carriage=(2, HALF), gap=HALF)
        self.assertEqual(lost(wanted, None), (EMPTY, EMPTY))
        self.assertEqual(lost(wanted, [EMPTY, EMPTY]), (EMPTY, EMPTY))
        self.assertEqual(lost(wanted, (LEFT, EMPTY)), (EMPTY, EMPTY))
        self.assertEqual(lost(wanted=wanted, standing=[LEFT, LEFT]), (RIGHT, RIGHT))
        self.assertEqual(lost(wanted, [EMPTY, LEFT]), (POSTS, RIGHT))
        more = lost(one_layer(SQUARE), [rectangle(5, 5, 6, 6)])
        self.assertEqual(more, (EMPTY,))
        for value in (more, kept(wanted), left_out(wanted)):
            self.assertIsInstance(value, tuple)
        with self.assertRaises(TypeError):
            lost(wanted)


class StandingsTest(unittest.TestCase):
    def test_left_out_none_lists_and_tuples(self):
        wanted = two_layers(SQUARE, SQUARE)
        stuff = [rectangle(0, 0, 1, 1), EMPTY]
        for standing in (stuff, tuple(stuff)):
            self.assertEqual(greatest(wanted, standing).body, (SQUARE, SQUARE))
            self.assertEqual(kept(wanted, standing=standing), (SQUARE, SQUARE))
        for act in (greatest, kept, left_out):
            act(wanted)
            act(wanted, None)
        self.assertEqual(greatest(wanted).body, greatest(wanted, [EMPTY, EMPTY]).body)

    def test_wrong_standings(self):
        wanted = two_layers(SQUARE, SQUARE)
        for standing, layer in WRONG_STANDINGS:
            for act in (greatest, kept, left_out, lost,
                        lambda given, value: is_barred(given.setup, 1, 0, 0, value)):
                with self.assertRaises(BadLayers) as held:
                    act(wanted, standing)
                self.assertEqual(held.exception.layer, layer)

    def test_nothing_passed_is_changed(self):
        wanted = two_layers(SQUARE, SQUARE)
        standing = [LEFT, EMPTY]
        found = greatest(wanted, standing)
        self.assertEqual(standing, [LEFT, EMPTY])
        standing[0] = None
        self.assertEqual(found.body, (SQUARE, SQUARE))
        self.assertEqual(wanted.slices, (SQUARE, SQUARE))


class BarredTest(unittest.TestCase):
    def test_the_foot(self):
        setup = Setup([0, 1, 2, 3], BED)
        standing = [SQUARE, rectangle(5, 5, 7, 7), EMPTY]
        for layer, x, y, wanted in [(1, 1, 1, False), (1, 6, 6, True), (2, 6, 6, False), (3, 6, 6, False),
                                    (1, (9, 2), 6, False), (1, (23, 5), 6, True),
                                    (1, 6, (9, 2), False), (1, (15, 2), (15, 2), False), (1, 7, 7, True),
                                    (1, (15, 2), 6, False), (1, -50, 60, False)]:
            self.assertIs(is_barred(setup, layer, x, y, standing), wanted)
        self.assertIs(is_barred(setup, 1, 6, 6), False)
        self.assertIs(is_barred(setup, 1, 6, 6, None), False)
        self.assertIs(is_barred(standing=standing, y=(6, 1), x=6, layer=1, setup=setup), True)

    def test_the_carriage_by_its_gap(self):
        standing = [EMPTY, SQUARE, SQUARE]
        for gap, barred in ((0, (True, True, False)), (HALF, (True, True, False)), (1, (True, False, False)),
                            ((3, 2), (True, False, False)), (2, (False, False, False))):
            setup = Setup([0, 1, 2, 3], BED, carriage=(2, 3), gap=gap)
            for layer in (1, 2, 3):
                self.assertIs(is_barred(setup, layer, 3, 1, standing), barred[layer - 1])
                self.assertIs(is_barred(setup, layer, 4, 1, standing), False)
                self.assertIs(is_barred(setup, layer, 1, (49, 10), standing), barred[layer - 1])
                self.assertIs(is_barred(setup, layer, 1, 5, standing), False)
                self.assertIs(is_barred(setup, layer, 1, 1, standing), layer < 3)

    def test_neighbouring_stuff_in_two_layers(self):
        setup = Setup([0, 1, 2, 3], BED)
        standing = [EMPTY, rectangle(0, 0, 1, 1), rectangle(1, 0, 2, 1)]
        self.assertIs(is_barred(setup, 1, 1, (3, 2), standing), False)
        self.assertIs(is_barred(setup, 1, 1, (7, 5), standing), True)


class ModelTest(unittest.TestCase):
    def test_against_cells(self):
        seen = {"props": 0, "thin": 0, "lost": 0}
        for seed in range(45):
            rng = random.Random(seed)
            wanted, standing = random_grid_case(rng, rng.choice((1, 2, 3, 3)), rng.choice((0, 4, 12)))
            model, found = grid.Model(wanted, standing), greatest(wanted, standing)
            for layer in range(len(standing)):
                for name in ("grounds", "places", "body", "roof"):
                    got = getattr(found, name)[layer]
                    self.assertEqual(form_faults(got), [])
                    self.assertEqual(grid.cells_of(got), grid.within_frame(getattr(model, name)[layer]), (seed, name))
                points = [(grid.quarters(x), grid.quarters(y)) for x, y in found.prop_places[layer]]
                self.assertEqual(points, model.prop_places[layer])
                seen["props"] += len(points) > 0
                seen["thin"] += found.places[layer] != full(found.places[layer])
            self.compare_rest(wanted, standing, model, seen)
            self.compare_bars(wanted.setup, standing, model, rng)
        self.assertGreater(min(seen.values()), 5)

    def compare_rest(self, wanted, standing, model, seen):
        fresh = grid.Model(wanted, [EMPTY] * len(standing))
        self.assertEqual([grid.cells_of(p) for p in kept(wanted, standing)], model.kept())
        self.assertEqual([grid.cells_of(p) for p in left_out(wanted, standing)],
                         [grid.less(part, body) for part, body in zip(model.slices, model.body)])
        gone = lost(wanted, standing)
        self.assertEqual([grid.cells_of(p) for p in gone],
                         [grid.less(p, q) for p, q in zip(fresh.kept(), model.kept())])
        seen["lost"] += any(gone)

    def compare_bars(self, setup, standing, model, rng):
        for _ in range(40):
            cell = (rng.randint(-4, 26), rng.randint(-4, 26))
            layer = rng.randint(1, len(standing))
            got = is_barred(setup, layer, grid.quarter(cell[0]), grid.quarter(cell[1]), standing)
            self.assertIs(got, model.bars(cell, layer))


class SlantedTest(unittest.TestCase):
    def random_case(self, rng):
        setup = Setup([0, 1, 2, (7, 2)], (-5, -5, 6, 6), foot=rng.choice([(HALF, HALF), (1, (1, 3))]),
                      carriage=(1, (3, 2)), gap=rng.choice((0, 1)), reach=rng.choice([(0, 0), (HALF, 1)]),
                      raster=[(rng.randint(-6, 6), rng.randint(-6, 6)) for _ in range(6)])
        base = random_shapes(rng, 3)
        shapes = [random_shapes(rng, 2) for _ in range(3)]
        stuff = [random_shapes(rng, 1) for _ in range(3)]
        sides = [side for one in [base] + shapes + stuff for side in one.sides()]
        wanted = Wanted(setup, [full(joined(base.patch, one.patch)) for one in shapes])
        return wanted, [full(one.patch) for one in stuff], sides

    def test_places_point_by_point(self):
        for seed in range(12):
            rng = random.Random(seed)
            wanted, standing, sides = self.random_case(rng)
            setup = wanted.setup
            found = greatest(wanted, standing)
            ground = rectangle(*setup.bed)
            for at in range(3):
                self.assertEqual(found.grounds[at], ground)
                inner = common(wanted.slices[at], ground)
                ways = directions_of(sides)[::5]
                samples = own_samples(found.places[at]) + own_samples(drawn_in(inner, *setup.foot))[::2]
                for z in samples[::3]:
                    for x, y in [z] + near(z, rng.sample(ways, 3), NEAR):
                        place = numbers(x, y)
                        free = within(foot_at(setup, *place), inner)
                        free = free and not slow_barred(setup, standing, at + 1, *place)
                        self.assertIs(has(found.places[at], (x, y)), free)
                        self.assertIs(is_barred(setup, at + 1, *place, standing),
                                      slow_barred(setup, standing, at + 1, *place))
                self.assertEqual(found.body[at], joined(standing[at], grown(found.places[at], *setup.foot)))
                stands = [foot_at(setup, *point) for point in found.prop_places[at]]
                self.assertEqual(found.roof[at], joined(found.body[at], *stands))
                ground = grown(found.roof[at], *setup.reach)

    def test_facts(self):
        for seed in range(12):
            rng = random.Random(100 + seed)
            wanted, standing, _ = self.random_case(rng)
            setup = wanted.setup
            further = Setup(setup.heights, setup.bed, foot=setup.foot, carriage=setup.carriage, gap=setup.gap,
                            reach=(2, 2), raster=setup.raster)
            richer = Setup(setup.heights, setup.bed, foot=setup.foot, carriage=setup.carriage, gap=setup.gap,
                           reach=setup.reach, raster=list(setup.raster) + [(0, 0), (3, 3), (-3, HALF)])
            body = greatest(wanted, standing).body
            for other in (further, richer):
                for p, q in zip(body, greatest(Wanted(other, wanted.slices), standing).body):
                    self.assertTrue(within(p, q))
            bare = Setup(setup.heights, setup.bed, foot=setup.foot, carriage=setup.carriage, gap=setup.gap,
                         reach=setup.reach)
            greater = [joined(p, rectangle(-2, -2, 1, 1)) for p in wanted.slices]
            for p, q in zip(greatest(Wanted(bare, wanted.slices), standing).body,
                            greatest(Wanted(bare, greater), standing).body):
                self.assertTrue(within(p, q))
            # What has come stands in the way of nothing that can come later in its own layer.
            again = [joined(p, q) for p, q in zip(standing, [body[0], EMPTY, EMPTY])]
            for p, q in zip(body, greatest(wanted, again).body):
                self.assertTrue(within(p, q))


class BehindTest(unittest.TestCase):
    """What the machines work out when a sweep is laid is what is worked out anew."""

    def random_sweep(self, rng, wanted, best):
        """A layer and a sweep, most often between places of the body or points of the raster."""
        setup = wanted.setup
        layer = rng.randint(1, setup.layers)
        p = best.places[layer - 1]
        spots = [(x, y) for y, row in zip(p.levels, p.rows) for stretch in row for x in stretch] + list(setup.raster)
        if not spots or rng.random() < 0.3:
            spots = [numbers(Fraction(rng.randint(0, 24), 4), Fraction(rng.randint(0, 24), 4)) for _ in range(2)]
        one, other = rng.choice(spots), rng.choice(spots)
        return layer, laid([one + rng.choice((one, other))], *setup.foot)

    def test_against_what_is_worked_out_anew(self):
        lessened = 0
        for seed in range(240):
            rng = random.Random(500 + seed)
            wanted, standing = random_grid_case(rng, rng.randint(1, 3), rng.choice((0, 8, 15)))
            best = greatest(wanted, standing)
            for _ in range(6):
                layer, swept = self.random_sweep(rng, wanted, best)
                standing = list(standing)
                standing[layer - 1] = joined(standing[layer - 1], swept)
                ahead, wished = best, greatest(wanted, standing)
                best = greatest_behind(wanted, ahead, tuple(standing), layer, swept)
                for name in ("grounds", "places", "body", "prop_places", "roof"):
                    self.assertEqual(getattr(best, name), getattr(wished, name))
                parts = [[full(common(p, q)) for p, q in zip(one.body, wanted.slices)] for one in (ahead, best)]
                fewer = [at + 1 for at, (p, q) in enumerate(zip(*parts)) if less(p, q)]
                self.assertEqual(lost_layer(wanted, ahead, best), fewer[0] if fewer else None)
                lessened += len(fewer) > 0
        self.assertGreater(lessened, 40)


if __name__ == "__main__":
    unittest.main()
