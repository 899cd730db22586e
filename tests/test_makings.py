import inspect
import unittest
from fractions import Fraction

from mostlaid.errors import AllDone, BadChooser, BadFilling, BadLayers, NotReady
from mostlaid.fillings import laid, row_strokes, strokes_of
from mostlaid.jobs import Plan
from mostlaid.makings import Making, hop_rows, house_code
from mostlaid.patches import rectangle
from mostlaid.quick import QuickPrinter
from mostlaid.rims import way
from mostlaid.sets import insides_meet, joined
from mostlaid.setups import Setup, Wanted

from tests.bodies import (BEAM_RASTER, BED, EMPTY, HALF, LEFT, POSTS, RIGHT, SQUARE, WRONG_STANDINGS, one_layer,
                          random_grid_case, two_layers)
from tests.cases import RefusalCase
from tests.reference import fraction, number, numbers
from tests.slow import FILLINGS, SlowPrinter, random_case, random_chooser, rng_of

BEAM = rectangle(0, 0, 4, 1)
BAD_CHOOSERS = (None, True, 0, "", "Layers", "rows", "layers ", [True], [0, False], [100], [-1], [0, 100], ["1"], [None], [[1]],
                [(1, 1)], (1, (2,)), ("layers",), ["near"])
BAD_FILLINGS = (None, True, 0, "", "Rows", "walls", "layers", [], ["rows"], ("rows",), ("walls",), ["walls", 3], ("walls", -1),
                ("walls", 21), ("walls", True), ("walls", (3, 1)), ("walls", None), ("walls", 1, 1), ("wall", 3))


def slow_hop(setup, stands, spot, tip, goal, height):
    """The rows of a hop, with Fractions and no short cuts."""
    if (spot, tip) == (goal, height):
        return []
    heights = [tip, height]
    stroke = [numbers(*spot) + numbers(*goal)]
    for upper, stuff in zip(setup.heights[1:], stands):
        if insides_meet(laid(stroke, *setup.foot), stuff):
            heights.append(fraction(upper))
        if insides_meet(laid(stroke, *setup.carriage), stuff):
            heights.append(fraction(upper) - fraction(setup.gap))
    rows, now = [], (spot, tip)
    for row, behind in ((("high", number(max(heights))), (spot, max(heights))),
                        (("go",) + numbers(*goal), (goal, max(heights))), (("high", number(height)), (goal, height))):
        if behind != now:
            rows.append(row)
        now = behind
    return rows


class SlowMaking:
    """A making by the words of the document."""

    def __init__(self, wanted, standing, chooser, filling, place, tip, walk):
        self.setup, self.plan = wanted.setup, Plan(wanted, standing)
        self.chooser, self.filling, self.walk = chooser, filling, walk
        self.place, self.tip = tuple(fraction(x) for x in place), fraction(tip)
        self.done = []

    def strokes(self, k):
        return strokes_of(self.plan.jobs[k].places, *self.setup.foot, self.filling)

    def far(self, k):
        stroke = [fraction(x) for x in self.strokes(k)[0]]
        return max(abs(stroke[0] - self.place[0]), abs(stroke[1] - self.place[1]))

    def choice(self):
        ready = self.plan.ready(self.done)
        if not ready:
            return None
        if self.chooser == "towers":
            return min(ready, key=lambda k: (-self.plan.jobs[k].layer, k))
        if self.chooser == "near":
            return min(ready, key=lambda k: (self.far(k), k))
        if self.chooser == "layers" or len(self.chooser) == 0:
            return min(ready, key=lambda k: (self.plan.jobs[k].layer, k))
        return ready[self.chooser[len(self.done) % len(self.chooser)] % len(ready)]

    def lay(self, k):
        job = self.plan.jobs[k]
        stands, rows, height = self.plan.stands(self.done), [], fraction(self.setup.heights[job.layer])
        strokes = self.strokes(k)
        for at, (x0, y0, x1, y1) in enumerate(strokes):
            present = list(stands)
            present[job.layer - 1] = joined(stands[job.layer - 1], laid(strokes[:at], *self.setup.foot))
            begin = (fraction(x0), fraction(y0))
            if self.walk and at > 0 and self.tip == height:
                rows.extend(("go", x, y) for x, y in way(job.places, numbers(*self.place), (x0, y0))[1:])
            else:
                rows.extend(slow_hop(self.setup, present, self.place, self.tip, begin, height))
            rows.append(("lay", x1, y1))
            self.place, self.tip = (fraction(x1), fraction(y1)), height
        self.done.append(k)
        return rows


def state(making):
    return (making.place, making.tip, making.standing, making.done)


class NewTest(RefusalCase):
    def test_a_new_making(self):
        wanted = two_layers(POSTS, POSTS)
        making = Making(wanted)
        self.assertIsInstance(making.plan, Plan)
        self.assertIs(making.plan.wanted, wanted)
        self.assertEqual(state(making), (numbers(0, 0), (2, 1), (EMPTY, EMPTY), []))
        making = Making(wanted, standing=[LEFT, EMPTY], chooser=[3], filling=("walls", 20), place=((1, 2), 3), tip=HALF,
                        walk=True)
        self.assertEqual(state(making), (((1, 2), (3, 1)), HALF, (LEFT, EMPTY), []))
        self.assertEqual(Making(wanted, place=(0, 7), tip=0).tip, (0, 1))

    def test_repr(self):
        making = Making(two_layers(POSTS, POSTS))
        self.assertEqual(repr(making), "Making(0 of 4)")
        making.lay()
        making.lay()
        self.assertEqual(repr(making), "Making(2 of 4)")
        self.assertEqual(repr(Making(two_layers(EMPTY, EMPTY))), "Making(0 of 0)")
        one = Making(one_layer(LEFT))
        one.lay()
        self.assertEqual(repr(one), "Making(1 of 1)")

    def test_refusals(self):
        wanted = two_layers(POSTS, POSTS)
        for act in (Making, house_code):
            for standing, layer in WRONG_STANDINGS:
                self.refuses(BadLayers, lambda: act(wanted, standing=standing), layer)
                self.refuses(BadLayers, lambda: act(wanted, standing=standing, chooser=1, filling=2), layer)
            for chooser in BAD_CHOOSERS:
                error = self.refuses(BadChooser, lambda: act(wanted, chooser=chooser), chooser)
                self.assertIs(error.chooser, chooser)
                self.refuses(BadChooser, lambda: act(wanted, chooser=chooser, filling="walls"), chooser)
            for filling in BAD_FILLINGS:
                error = self.refuses(BadFilling, lambda: act(wanted, filling=filling), filling)
                self.assertIs(error.filling, filling)
            for filling in FILLINGS:
                act(wanted, filling=filling)
            for chooser in ("layers", "towers", "near", [], (), [0], (99, 0), [7] * 64):
                act(wanted, chooser=chooser)


class ChooserTest(unittest.TestCase):
    def order_of(self, wanted, chooser, **more):
        making = Making(wanted, chooser=chooser, **more)
        while making.ready():
            making.lay()
        return making.done

    def test_choosers(self):
        wanted = two_layers(POSTS, POSTS)
        for chooser, wished in (("layers", [0, 1, 2, 3]), ("towers", [0, 2, 1, 3]), ([], [0, 1, 2, 3]), ((), [0, 1, 2, 3]),
                                ([0], [0, 1, 2, 3]), ([1], [1, 3, 0, 2]), ([3, 0], [1, 0, 3, 2]), ((0, 1, 99), [0, 2, 1, 3]),
                                ([98], [0, 1, 2, 3]), ([99], [1, 3, 0, 2])):
            self.assertEqual(self.order_of(wanted, chooser), wished, chooser)

    def test_near(self):
        wanted = two_layers(POSTS, POSTS)
        self.assertEqual(self.order_of(wanted, "near"), [0, 2, 1, 3])
        self.assertEqual(self.order_of(wanted, "near", place=(9, 0)), [1, 3, 0, 2])
        self.assertEqual(self.order_of(wanted, "near", place=((3, 2), 8)), [0, 2, 1, 3])
        wanted = one_layer(joined(LEFT, rectangle(5, 0, 6, 1), rectangle(0, 3, 1, 4)))
        self.assertEqual(self.order_of(wanted, "near"), [0, 2, 1])
        self.assertEqual(self.order_of(wanted, "near", place=(HALF, (5, 2))), [2, 0, 1])
        self.assertEqual(self.order_of(wanted, "near", place=(9, 0)), [1, 0, 2])

    def test_near_looks_at_the_first_stroke(self):
        bar = rectangle(2, 5, 9, 6)
        wanted = one_layer(joined(LEFT, bar))
        self.assertEqual(self.order_of(wanted, "near", place=(8, 5)), [1, 0])
        self.assertEqual(self.order_of(wanted, "near", place=((3, 2), 3), filling="columns"), [0, 1])

    def test_a_list_that_is_changed_means_nothing(self):
        chooser = [1]
        making = Making(two_layers(POSTS, POSTS), chooser=chooser)
        chooser[0] = 0
        chooser.append("x")
        self.assertEqual(making.choice(), 1)
        making.lay()
        self.assertEqual(making.choice(), 3)

    def test_jobs_that_are_laid_by_number_count(self):
        making = Making(two_layers(POSTS, POSTS), chooser=[0, 1, 0, 0])
        making.lay(1)
        self.assertEqual(making.choice(), 3)
        making.lay(0)
        self.assertEqual(making.choice(), 2)


class LayTest(RefusalCase):
    def test_ready_and_choice(self):
        making = Making(two_layers(LEFT, BEAM, raster=BEAM_RASTER))
        self.assertEqual((making.ready(), making.choice()), ([0, 1, 2, 3], 0))
        for k in (3, 1, 2, 0):
            making.lay(k)
        self.assertEqual((making.ready(), making.choice(), making.done), ([4], 4, [3, 1, 2, 0]))
        making.lay(number=4)
        self.assertEqual((making.ready(), making.choice(), making.done), ([], None, [3, 1, 2, 0, 4]))
        making.ready().append(9)
        making.done.clear()
        self.assertEqual((making.ready(), making.done), ([], [3, 1, 2, 0, 4]))

    def test_rows(self):
        making = Making(one_layer(BEAM))
        self.assertEqual(making.lay(), [("go", HALF, HALF), ("lay", (7, 2), HALF)])
        self.assertEqual(state(making), (((7, 2), HALF), (1, 1), (BEAM,), [0]))
        making = Making(two_layers(POSTS, POSTS), chooser="towers")
        self.assertEqual(making.lay(), [("go", HALF, HALF), ("high", (1, 1)), ("lay", HALF, HALF)])
        self.assertEqual(making.lay(None), [("high", (2, 1)), ("lay", HALF, HALF)])
        self.assertEqual(making.standing, (LEFT, LEFT))
        self.assertEqual(making.lay(), [("go", (5, 2), HALF), ("high", (1, 1)), ("lay", (5, 2), HALF)])
        self.assertEqual(making.lay(), [("high", (2, 1)), ("lay", (5, 2), HALF)])
        self.assertEqual(making.standing, (POSTS, POSTS))

    def test_all_done(self):
        making = Making(one_layer(LEFT))
        making.lay()
        before = state(making)
        for value in (None, 0, 1, True, "x", ()):
            self.refuses(AllDone, lambda: making.lay(value))
        self.refuses(AllDone, making.lay)
        self.refuses(AllDone, Making(one_layer(EMPTY)).lay)
        self.assertEqual(state(making), before)

    def test_not_ready(self):
        making = Making(two_layers(POSTS, POSTS, carriage=(2, HALF)))
        making.lay(1)
        before = state(making)
        for value in (1, 2, 3, 4, -1, True, False, "0", "", (), (0,), [0], [], ((0, 1),), (0, 1), 10 ** 9):
            error = self.refuses(NotReady, lambda: making.lay(value), value)
            self.assertIs(error.number, value)
        self.assertEqual(state(making), before)
        making.lay(0)
        self.assertEqual(making.ready(), [2, 3])

    def test_by_the_words(self):
        walks, hops, longest = 0, 0, 0
        for seed in range(70):
            rng = rng_of("making", seed)
            wanted, standing = random_case(rng)
            chooser, filling, walk = random_chooser(rng), rng.choice(FILLINGS), rng.random() < 0.5
            place = numbers(rng.randint(-3, 9), Fraction(rng.randint(-6, 9), 2))
            making = Making(wanted, standing=standing, chooser=chooser, filling=filling, place=place, walk=walk)
            slow = SlowMaking(wanted, standing, chooser, filling, place, wanted.setup.heights[-1], walk)
            if sum(len(slow.strokes(k)) for k in range(len(slow.plan.jobs))) > 80:
                continue
            while making.ready():
                self.assertEqual(making.choice(), slow.choice())
                by_number = rng.random() < 0.3
                k = rng.choice(making.ready()) if by_number else slow.choice()
                rows = making.lay(k) if by_number else making.lay()
                self.assertEqual(rows, slow.lay(k))
                self.assertEqual(state(making), (numbers(*slow.place), number(slow.tip), slow.plan.stands(slow.done), slow.done))
                walks += walk and len(rows) > 1
                hops += len([row for row in rows if row[0] == "high"])
                longest = max(longest, len(rows))
            self.assertIsNone(slow.choice())
        self.assertGreater(walks, 20)
        self.assertGreater(hops, 40)
        self.assertGreater(longest, 20)


class CodeTest(unittest.TestCase):
    def test_house_code(self):
        self.assertEqual(house_code(one_layer(BEAM)), [("go", HALF, HALF), ("lay", (7, 2), HALF)])
        self.assertEqual(house_code(one_layer(EMPTY)), [])
        self.assertEqual(house_code(one_layer(LEFT), place=(HALF, HALF)), [("lay", HALF, HALF)])
        self.assertEqual(house_code(one_layer(LEFT), place=(HALF, HALF), tip=0), [("high", (1, 1)), ("lay", HALF, HALF)])
        self.assertEqual(house_code(wanted=one_layer(POSTS), standing=[LEFT], chooser="near", filling="tree", place=(1, 1),
                                    tip=1, walk=True), [("go", (5, 2), HALF), ("lay", (5, 2), HALF)])

    def test_code_and_steps(self):
        for seed in range(25):
            rng = rng_of("code", seed)
            wanted, standing = random_case(rng)
            more = {"standing": standing, "chooser": random_chooser(rng), "filling": rng.choice(FILLINGS),
                    "walk": rng.random() < 0.5}
            making = Making(wanted, **more)
            code = house_code(wanted, **more)
            self.assertEqual(making.code(), code)
            self.assertEqual(state(making), state(Making(wanted, **more)))
            twin = making.twin()
            steps = list(twin.steps())
            self.assertEqual([row for rows in steps for row in rows], code)
            self.assertEqual(len(steps), len(making.plan.jobs))
            self.assertEqual(twin.done, sorted(twin.done) if more["chooser"] in ("layers", []) else twin.done)
            self.assertEqual(making.done, [])
            if steps:
                self.assertEqual(making.lay(), steps[0])
                self.assertEqual(making.code(), [row for rows in steps[1:] for row in rows])

    def test_steps_are_made_one_by_one(self):
        making = Making(two_layers(POSTS, POSTS))
        steps = making.steps()
        self.assertTrue(inspect.isgenerator(steps))
        self.assertEqual(making.done, [])
        next(steps)
        self.assertEqual(making.done, [0])
        making.lay(2)
        next(steps)
        self.assertEqual(making.done, [0, 2, 1])
        self.assertEqual(len(list(steps)), 1)
        self.assertEqual(list(making.steps()), [])

    def test_twins(self):
        making = Making(two_layers(POSTS, POSTS), chooser=[1, 0], filling="tree", walk=True, place=(3, 3))
        making.lay()
        twin = making.twin()
        self.assertIsInstance(twin, Making)
        self.assertEqual((state(twin), repr(twin), twin.plan.wanted), (state(making), repr(making), making.plan.wanted))
        self.assertEqual(twin.code(), making.code())
        before = state(making)
        twin.lay()
        self.assertEqual(state(making), before)
        self.assertEqual(repr(making), "Making(1 of 4)")
        making.lay(3)
        self.assertEqual((twin.done, making.done), ([1, 0], [1, 3]))

    def test_returned_rows_are_new(self):
        making = Making(one_layer(BEAM), filling="rings")
        making.code().clear()
        self.assertEqual(making.code(), [("go", HALF, HALF), ("lay", (7, 2), HALF)])


class HopTest(RefusalCase):
    def test_rows_that_change_nothing_are_left_out(self):
        setup = Setup([0, 1, 2], BED)
        for spot, tip, goal, height, wished in (
                ((1, 1), 1, (1, 1), 1, []),
                ((1, 1), 1, (2, 1), 1, [("go", (2, 1), (1, 1))]),
                ((1, 1), 1, (1, 1), 2, [("high", (2, 1))]),
                ((1, 1), 2, (1, 1), 1, [("high", (1, 1))]),
                ((1, 1), 1, (2, 1), 2, [("high", (2, 1)), ("go", (2, 1), (1, 1))]),
                ((1, 1), 2, (2, 1), 1, [("go", (2, 1), (1, 1)), ("high", (1, 1))]),
                ((1, 1), HALF, (1, 3), HALF, [("go", (1, 1), (3, 1))])):
            self.assertEqual(hop_rows(setup, None, spot, tip, goal, height), wished)

    def test_over_what_stands(self):
        setup = Setup([0, 1, (5, 2)], BED)
        standing = [rectangle(4, 0, 5, 9), rectangle(8, 0, 9, 9)]
        over = hop_rows(setup=setup, standing=standing, place=(1, 1), tip=0, goal=(6, 1), height=HALF)
        self.assertEqual(over, [("high", (1, 1)), ("go", (6, 1), (1, 1)), ("high", HALF)])
        over = hop_rows(setup, standing, (1, 1), 1, (12, 1), 1)
        self.assertEqual(over, [("high", (5, 2)), ("go", (12, 1), (1, 1)), ("high", (1, 1))])
        self.assertEqual(hop_rows(setup, standing, (1, 10), 0, (12, 10), 0), [("go", (12, 1), (10, 1))])
        self.assertEqual(hop_rows(setup, tuple(standing), (1, (19, 2)), 0, (12, (19, 2)), 0), [("go", (12, 1), (19, 2))])

    def test_under_the_carriage(self):
        standing = [EMPTY, rectangle(8, 0, 9, 9)]
        for gap, wished in ((0, [("high", (5, 2)), ("go", (12, 1), (10, 1)), ("high", (0, 1))]),
                            (1, [("high", (3, 2)), ("go", (12, 1), (10, 1)), ("high", (0, 1))]),
                            ((5, 2), [("go", (12, 1), (10, 1))]), (3, [("go", (12, 1), (10, 1))])):
            setup = Setup([0, 1, (5, 2)], BED, carriage=(2, 2), gap=gap)
            self.assertEqual(hop_rows(setup, standing, (1, 10), 0, (12, 10), 0), wished)

    def test_wrong_standings(self):
        setup = Setup([0, 1, 2], BED)
        for standing, layer in WRONG_STANDINGS:
            self.refuses(BadLayers, lambda: hop_rows(setup, standing, (0, 0), 2, (1, 1), 1), layer)

    def random_end(self, rng, setup, stands):
        """A place and a tip at which a printer touches nothing, most often a low one."""
        printer = SlowPrinter(setup, stands)
        printer.do(("go",) + numbers(Fraction(rng.randint(-2, 16), 2), Fraction(rng.randint(-2, 16), 2)))
        for z in (0, (1, 4), HALF) + setup.heights[1:]:
            if rng.random() < 0.7 and printer.do(("high", z)) is None:
                break
        return printer.place, printer.tip

    def test_a_lower_height_would_touch(self):
        lifted = 0
        for seed in range(200):
            rng = rng_of("hop", seed)
            wanted, standing = random_grid_case(rng, rng.randint(1, 3), 0)
            setup = wanted.setup
            (spot, tip), (goal, height) = [self.random_end(rng, setup, standing) for _ in range(2)]
            rows = hop_rows(setup, standing, numbers(*spot), number(tip), numbers(*goal), number(height))
            self.assertEqual(rows, slow_hop(setup, standing, spot, tip, goal, height))
            printer = SlowPrinter(setup, standing)
            printer.place, printer.tip = spot, tip
            self.assertEqual([printer.do(row) for row in rows], [None] * len(rows))
            self.assertEqual((printer.place, printer.tip), (goal, height))
            if rows and rows[0][0] == "high" and fraction(rows[0][1]) > max(tip, height):
                lifted += 1
                printer = SlowPrinter(setup, standing)
                printer.place, printer.tip = spot, (fraction(rows[0][1]) + max(tip, height)) / 2
                self.assertEqual(printer.do(("go",) + numbers(*goal))[0], "Touch")
        self.assertGreater(lifted, 30)


class WalkTest(unittest.TestCase):
    def test_walks(self):
        corner = joined(rectangle(0, 0, 1, 3), rectangle(0, 0, 3, 1))
        hops = house_code(one_layer(corner), place=(HALF, HALF))
        walks = house_code(one_layer(corner), place=(HALF, HALF), walk=True)
        self.assertEqual(hops, [("lay", (5, 2), HALF), ("go", HALF, HALF), ("lay", HALF, (5, 2))])
        self.assertEqual(walks, hops)

    def test_walks_go_round(self):
        cup = joined(rectangle(0, 0, 1, 4), rectangle(0, 0, 4, 1), rectangle(3, 0, 4, 4))
        wanted = two_layers(cup, cup)
        job = Plan(wanted).jobs[0]
        strokes = row_strokes(job.places, HALF, HALF)
        self.assertEqual(strokes[:3], [(HALF, HALF, (7, 2), HALF), (HALF, HALF, HALF, (7, 2)), ((7, 2), HALF, (7, 2), (7, 2))])
        rows = Making(wanted, walk=True).lay()
        spot = (HALF, HALF)
        wished = [("go", HALF, HALF), ("high", (1, 1))]
        for at, (x0, y0, x1, y1) in enumerate(strokes):
            if at > 0:
                wished.extend(("go", x, y) for x, y in way(job.places, spot, (x0, y0))[1:])
            wished.append(("lay", x1, y1))
            spot = (x1, y1)
        self.assertEqual(rows, wished)
        self.assertIn(("go", (7, 2), HALF), rows[4:])

    def test_a_walk_to_the_second_stroke(self):
        arch = joined(rectangle(0, 0, 1, 4), rectangle(3, 0, 4, 4), rectangle(0, 3, 4, 4))
        far = (7, 2)
        first = [("go", HALF, HALF), ("lay", HALF, far)]
        last = [("lay", far, far), ("go", HALF, far), ("lay", far, far)]
        self.assertEqual(house_code(one_layer(arch), walk=True), first + [("go", far, far), ("go", far, HALF)] + last)
        self.assertEqual(house_code(one_layer(arch)), first + [("go", far, HALF)] + last)

    def test_walks_touch_nothing(self):
        wall = rectangle(0, 2, 4, 3)
        wanted = two_layers(joined(rectangle(-2, 0, 6, 1), rectangle(-2, 0, -1, 5), rectangle(5, 0, 6, 5)), EMPTY)
        wanted = Wanted(Setup([0, 1, 2], (-9, -9, 9, 9)), wanted.slices)
        standing = [EMPTY, wall]
        for walk in (False, True):
            rows = house_code(wanted, standing=standing, walk=walk)
            self.assertEqual(QuickPrinter(wanted.setup, standing=standing, wanted=wanted, careful=True).run(rows), [])
            self.assertEqual(len([row for row in rows if row[0] == "high"]) > 1, not walk)

    def test_the_first_stroke_of_a_job_is_hopped_to(self):
        wanted = one_layer(joined(LEFT, RIGHT, SQUARE))
        self.assertEqual(house_code(wanted, walk=True)[0][0], "go")


if __name__ == "__main__":
    unittest.main()
