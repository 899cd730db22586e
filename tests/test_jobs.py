import itertools
import unittest

from mostlaid.errors import BadIndex, BadLayers, NotOrder, UnknownJob
from mostlaid.feet import grown
from mostlaid.fillings import strokes_of
from mostlaid.greatest import greatest
from mostlaid.jobs import Plan, job_hits
from mostlaid.patches import dot, rectangle, segment
from mostlaid.props import islands, props
from mostlaid.quick import QuickPrinter
from mostlaid.sets import insides_meet, joined, within
from mostlaid.setups import Setup, Wanted, checked_standing

from tests.bodies import (BEAM_RASTER, BED, EMPTY, HALF, LEFT, POSTS, RIGHT, WRONG_STANDINGS, foot_at, one_layer,
                          two_layers)
from tests.cases import RefusalCase
from tests.reference import fraction, numbers
from tests.slow import random_case, rng_of

BEAM = rectangle(0, 0, 4, 1)
NO_NUMBERS = (None, True, False, -1, -4, 4, 100, "0", "", (), (0,), [], [0], ((0, 1),), (0, 1))


def posts(gap):
    return Plan(two_layers(POSTS, POSTS, carriage=(2, HALF), gap=gap))


def beam():
    return Plan(two_layers(LEFT, BEAM, raster=BEAM_RASTER))


def empty_plan():
    return Plan(two_layers(EMPTY, EMPTY))


def row_of_posts(many):
    return Plan(one_layer(joined(*[rectangle(2 * k, 0, 2 * k + 1, 1) for k in range(many)])))


def slow_hits(setup, one, other):
    high, low = fraction(setup.heights[one.layer]), fraction(setup.heights[other.layer])
    if one.layer > other.layer and insides_meet(one.stuff, grown(other.places, *setup.foot)):
        return True
    return high > low + fraction(setup.gap) and insides_meet(one.stuff, grown(other.places, *setup.carriage))


def slow_why_not(plan, number, done):
    job, setup = plan.jobs[number], plan.wanted.setup
    if number in done:
        return ("done",)
    ground = rectangle(*setup.bed)
    if job.layer > 1:
        ground = grown(plan.stands(done)[job.layer - 2], *setup.reach)
    if not within(job.stuff, ground):
        return ("hangs",)
    for other in plan.jobs:
        if other.number not in done and other.number != number and slow_hits(setup, job, other):
            return ("hits", other.number)
    return None


def slow_orders(plan):
    """All orders, ascending."""
    found = []
    for order in itertools.permutations(range(len(plan.jobs))):
        if all(slow_why_not(plan, number, order[:k]) is None for k, number in enumerate(order)):
            found.append(list(order))
    return found


def small_plans(tag, most, many):
    """Plans with at most so many jobs, and with one at least."""
    seed = 0
    while many:
        seed += 1
        wanted, standing = random_case(rng_of(tag, seed))
        plan = Plan(wanted, standing)
        if 0 < len(plan.jobs) <= most and sum(len(job.places.levels) for job in plan.jobs) < 40:
            many -= 1
            yield rng_of(tag, seed, "more"), plan


class PlanTest(RefusalCase):
    def test_jobs_of_the_beam(self):
        wanted = two_layers(LEFT, BEAM, raster=BEAM_RASTER)
        plan = Plan(wanted=wanted, standing=None)
        self.assertIs(plan.wanted, wanted)
        self.assertEqual(plan.begun, (EMPTY, EMPTY))
        self.assertIsInstance(plan.jobs, tuple)
        self.assertEqual([job.number for job in plan.jobs], [0, 1, 2, 3, 4])
        self.assertEqual([job.layer for job in plan.jobs], [1, 1, 1, 1, 2])
        self.assertEqual([job.kind for job in plan.jobs], ["island", "prop", "prop", "prop", "island"])
        self.assertEqual([job.places for job in plan.jobs], [dot(*point) for point in BEAM_RASTER]
                         + [segment(HALF, HALF, (7, 2), HALF)])
        self.assertEqual([job.stuff for job in plan.jobs], [rectangle(k, 0, k + 1, 1) for k in range(4)] + [BEAM])

    def test_begun(self):
        standing = [LEFT, EMPTY]
        plan = Plan(two_layers(POSTS, POSTS), standing)
        standing[0] = EMPTY
        self.assertEqual(plan.begun, (LEFT, EMPTY))
        self.assertEqual([job.stuff for job in plan.jobs], [RIGHT, LEFT, RIGHT])
        self.assertEqual(Plan(two_layers(POSTS, POSTS), (POSTS, POSTS)).jobs, ())

    def test_wrong_standings(self):
        for standing, layer in WRONG_STANDINGS:
            self.refuses(BadLayers, lambda: Plan(two_layers(POSTS, POSTS), standing), layer)

    def test_numbers_by_the_words(self):
        kinds = set()
        for seed in range(60):
            wanted, standing = random_case(rng_of("numbers", seed))
            setup = wanted.setup
            plan = Plan(wanted, standing)
            wished = []
            for at, (listed, points) in enumerate(zip(islands(wanted, standing), props(wanted, standing))):
                wished.extend((at + 1, "island", part, grown(part, *setup.foot)) for part in listed)
                wished.extend((at + 1, "prop", dot(*point), foot_at(setup, *point)) for point in points)
            self.assertEqual([(job.layer, job.kind, job.places, job.stuff) for job in plan.jobs], wished)
            self.assertEqual([job.number for job in plan.jobs], list(range(len(wished))))
            kinds.update(job.kind for job in plan.jobs)
        self.assertEqual(kinds, {"island", "prop"})


class HitsTest(RefusalCase):
    def test_posts(self):
        for gap, wished in ((0, [(2, 0), (2, 1), (3, 0), (3, 1)]), (HALF, [(2, 0), (2, 1), (3, 0), (3, 1)]),
                            (1, [(2, 0), (3, 1)]), ((99, 100), [(2, 0), (2, 1), (3, 0), (3, 1)])):
            plan = posts(gap)
            found = [(i, m) for i in range(4) for m in range(4) if plan.hits(one=i, other=m)]
            self.assertEqual(found, wished)
            found = [(i, m) for i in range(4) for m in range(4)
                     if job_hits(plan.wanted.setup, plan.jobs[i], plan.jobs[m])]
            self.assertEqual(found, wished)
        self.assertIs(posts(1).hits(2, 0), True)
        self.assertIs(posts(1).hits(0, 0), False)
        self.assertIs(job_hits(setup=plan.wanted.setup, one=plan.jobs[2], other=plan.jobs[0]), True)

    def test_carriages_that_only_just_fit(self):
        for width, wished in (((3, 2), False), ((31, 20), True)):
            plan = Plan(two_layers(POSTS, POSTS, carriage=(width, HALF)))
            self.assertIs(plan.hits(3, 0), wished)
            self.assertIs(plan.hits(2, 1), wished)

    def test_by_the_words(self):
        for seed in range(40):
            wanted, standing = random_case(rng_of("hits", seed))
            plan = Plan(wanted, standing)
            for one in plan.jobs:
                for other in plan.jobs:
                    wished = slow_hits(wanted.setup, one, other)
                    self.assertIs(plan.hits(one.number, other.number), wished)
                    self.assertIs(job_hits(wanted.setup, one, other), wished)

    def test_jobs_of_two_plans(self):
        setup = Setup([0, 1, 2], BED, carriage=(2, HALF))
        low, high = Plan(Wanted(setup, [LEFT, EMPTY])), Plan(Wanted(setup, [RIGHT, RIGHT]))
        self.assertTrue(job_hits(setup, high.jobs[1], low.jobs[0]))
        self.assertFalse(job_hits(setup, high.jobs[0], low.jobs[0]))
        self.assertFalse(job_hits(setup, low.jobs[0], high.jobs[1]))

    def test_unknown_jobs(self):
        plan = posts(1)
        for value in NO_NUMBERS:
            for act in (lambda: plan.hits(value, 0), lambda: plan.hits(0, value), lambda: plan.hits(value, "x"),
                        lambda: plan.why_not(value, []), lambda: plan.why_not(value, [0]), lambda: plan.least_lot(value)):
                error = self.refuses(UnknownJob, act, value)
                self.assertIs(error.number, value)
        self.refuses(UnknownJob, lambda: empty_plan().why_not(0, []), 0)
        self.refuses(UnknownJob, lambda: empty_plan().least_lot(number=0), 0)


class ReadyTest(unittest.TestCase):
    def test_stands(self):
        plan = beam()
        self.assertEqual(plan.stands([]), (EMPTY, EMPTY))
        self.assertEqual(plan.stands(done=[2, 0]), (joined(LEFT, RIGHT), EMPTY))
        self.assertEqual(plan.stands((4, 1)), (rectangle(1, 0, 2, 1), BEAM))
        plan = Plan(two_layers(POSTS, POSTS), [RIGHT, EMPTY])
        self.assertEqual(plan.stands([]), (RIGHT, EMPTY))
        self.assertEqual(plan.stands([0, 1]), (POSTS, LEFT))

    def test_why_not(self):
        plan = beam()
        self.assertEqual(plan.why_not(4, []), ("hangs",))
        self.assertEqual(plan.why_not(4, [3, 0, 1]), ("hangs",))
        self.assertIsNone(plan.why_not(number=4, done=[3, 2, 0, 1]))
        self.assertEqual(plan.why_not(4, [4]), ("done",))
        self.assertEqual(plan.why_not(4, (4, 0, 1, 2, 3)), ("done",))
        self.assertIsNone(plan.why_not(2, []))
        self.assertEqual(posts(HALF).why_not(2, [0]), ("hits", 1))
        self.assertEqual(posts(HALF).why_not(3, [1]), ("hits", 0))
        self.assertEqual(posts(HALF).why_not(3, [0]), ("hangs",))
        self.assertIsNone(posts(1).why_not(2, [0]))

    def test_a_job_over_jobs_that_need_not_bear_it(self):
        plan = Plan(two_layers(joined(LEFT, RIGHT), rectangle(0, 0, 3, 1), reach=(3, 0)))
        self.assertEqual([plan.why_not(2, done) for done in ([], [0], [1], [1, 0])],
                         [("hangs",), ("hits", 1), ("hits", 0), None])
        standing = [rectangle(1, 0, 2, 1), EMPTY]
        plan = Plan(two_layers(joined(LEFT, RIGHT), rectangle(0, 0, 3, 1), reach=(1, 0)), standing)
        self.assertEqual([plan.why_not(2, done) for done in ([], [0], [1], [1, 0])],
                         [("hits", 0), ("hits", 1), ("hits", 0), None])

    def test_ready(self):
        self.assertEqual(beam().ready([]), [0, 1, 2, 3])
        self.assertEqual(beam().ready([3, 1]), [0, 2])
        self.assertEqual(beam().ready(done=[3, 1, 0, 2]), [4])
        self.assertEqual(beam().ready((0, 1, 2, 3, 4)), [])
        self.assertEqual(posts(HALF).ready([1]), [0])
        self.assertEqual(posts(1).ready([1]), [0, 3])
        self.assertEqual(empty_plan().ready([]), [])

    def test_can_come(self):
        plan = posts(1)
        for done, wished in (([], True), ([0], True), ([2], False), ([2, 0], True), ([3, 0], False), ([2, 1], False),
                             ([3, 1, 0], True), ([3, 2, 1, 0], True), ((3, 1), True)):
            self.assertIs(plan.can_come(done), wished)
        self.assertIs(posts(HALF).can_come(done=[2, 0]), False)
        self.assertIs(empty_plan().can_come([]), True)

    def test_by_the_words(self):
        reasons = set()
        for rng, plan in small_plans("ready", 7, 20):
            numbers_of = range(len(plan.jobs))
            comes = {(): True}
            for many in numbers_of:
                for done in itertools.combinations(numbers_of, many + 1):
                    comes[done] = any(comes[done[:k] + done[k + 1:]]
                                      and slow_why_not(plan, number, done[:k] + done[k + 1:]) is None
                                      for k, number in enumerate(done))
            for done in rng.sample(sorted(comes), min(25, len(comes))):
                mixed = rng.sample(done, len(done))
                self.assertIs(plan.can_come(mixed), comes[done])
                wished = [slow_why_not(plan, number, done) for number in numbers_of]
                self.assertEqual([plan.why_not(number, mixed) for number in numbers_of], wished)
                self.assertEqual(plan.ready(mixed), [number for number in numbers_of if wished[number] is None])
                reasons.update(wished)
                if done and comes[done] and len(done) < len(plan.jobs):
                    self.assertTrue(plan.ready(mixed))
            self.check_least_lots(plan, comes)
        self.assertGreater(len(reasons), 4)

    def check_least_lots(self, plan, comes):
        for job in plan.jobs:
            left = tuple(range(len(plan.jobs)))
            for other in left[::-1]:
                without = tuple(number for number in left if number != other)
                if other != job.number and comes[without]:
                    left = without
            self.assertEqual(plan.least_lot(job.number), list(left))

    def test_one_of_the_lowest_layer_is_ready(self):
        for rng, plan in small_plans("lowest", 30, 12):
            done = []
            while len(done) < len(plan.jobs):
                lowest = min(job.layer for job in plan.jobs if job.number not in done)
                ready = plan.ready(done)
                self.assertTrue(any(plan.jobs[number].layer == lowest for number in ready))
                done.append(rng.choice(ready))
                self.assertLessEqual(set(ready) - set(done), set(plan.ready(done)))


class OrdersTest(RefusalCase):
    def test_counts(self):
        for plan, wished in ((empty_plan(), 1), (posts(HALF), 4), (posts(1), 6), (beam(), 24), (row_of_posts(9), 362880)):
            self.assertEqual(plan.count_orders(), wished)

    def test_orders_are_not_listed(self):
        plan = Plan(Wanted(Setup([0, 1], (0, 0, 30, 30)), [joined(*[rectangle(2 * k, 0, 2 * k + 1, 1) for k in range(12)])]))
        self.assertEqual(plan.count_orders(), 479001600)
        self.assertEqual(plan.order_at(479001599), list(range(12))[::-1])
        self.assertEqual(plan.rank_of(plan.order_at(123456789)), 123456789)

    def test_without_jobs(self):
        plan = empty_plan()
        self.assertEqual(plan.order_at(0), [])
        self.assertEqual((plan.rank_of([]), plan.rank_of(())), (0, 0))
        self.assertEqual((plan.is_order([]), plan.is_order(()), plan.is_order([0]), plan.is_order(None)),
                         (True, True, False, False))
        for index in (1, -1, None, False, "", ()):
            self.refuses(BadIndex, lambda: plan.order_at(index), index)
        self.refuses(NotOrder, lambda: plan.rank_of([0]))

    def test_posts(self):
        plan = posts(HALF)
        wished = [[0, 1, 2, 3], [0, 1, 3, 2], [1, 0, 2, 3], [1, 0, 3, 2]]
        self.assertEqual([plan.order_at(index=k) for k in range(4)], wished)
        self.assertEqual([plan.rank_of(order=order) for order in wished], [0, 1, 2, 3])
        self.assertEqual([posts(1).order_at(k) for k in range(6)],
                         [[0, 1, 2, 3], [0, 1, 3, 2], [0, 2, 1, 3], [1, 0, 2, 3], [1, 0, 3, 2], [1, 3, 0, 2]])

    def test_values_that_are_no_orders(self):
        plan = posts(1)
        for value in (None, True, 0, "", "0123", [], [0, 1, 2], [0, 1, 2, 3, 3], [0, 1, 2, 2], [0, 2, 3, 1], [2, 0, 1, 3],
                      [False, 1, 2, 3], [0, True, 2, 3], [0, 1, 2, 4], [0, 1, 2, -1], [0, 1, 2, None], [0, 1, 2, "3"],
                      [[0, 1, 2, 3]], [0, 1, [2], 3], (0, 1, 3), (0, 1, 2, (3, 1))):
            self.assertIs(plan.is_order(value), False)
            self.refuses(NotOrder, lambda: plan.rank_of(value))
        self.assertIs(plan.is_order(numbers=(0, 1, 2, 3)), True)
        self.assertIs(plan.is_order([1, 3, 0, 2]), True)
        self.assertEqual(plan.rank_of((1, 3, 0, 2)), 5)

    def test_values_that_are_no_indexes(self):
        plan = posts(1)
        for value in (None, True, False, -1, 6, 10 ** 30, "0", "", (), (0,), [0], ((1, 1),), (1, 1)):
            error = self.refuses(BadIndex, lambda: plan.order_at(value), value)
            self.assertIs(error.index, value)

    def test_returned_lists_are_new(self):
        plan = posts(1)
        plan.order_at(0).clear()
        plan.ready([]).clear()
        plan.least_lot(3).clear()
        self.assertEqual((plan.order_at(0), plan.ready([]), plan.least_lot(3)), ([0, 1, 2, 3], [0, 1], [1, 3]))

    def test_least_lots(self):
        self.assertEqual([posts(1).least_lot(k) for k in range(4)], [[0], [1], [0, 2], [1, 3]])
        self.assertEqual([posts(HALF).least_lot(number=k) for k in range(4)], [[0], [1], [0, 1, 2], [0, 1, 3]])
        self.assertEqual(beam().least_lot(4), [0, 1, 2, 3, 4])
        self.assertEqual(beam().least_lot(2), [2])

    def test_by_permutations(self):
        for _, plan in small_plans("orders", 5, 15):
            wished = slow_orders(plan)
            self.assertEqual(plan.count_orders(), len(wished))
            self.assertEqual([plan.order_at(k) for k in range(len(wished))], wished)
            self.assertEqual([plan.rank_of(order) for order in wished], list(range(len(wished))))
            for order in itertools.permutations(range(len(plan.jobs))):
                self.assertIs(plan.is_order(order), list(order) in wished)

    def test_there_and_back(self):
        for rng, plan in small_plans("back", 12, 12):
            many = plan.count_orders()
            for index in [0, many - 1] + [rng.randrange(many) for _ in range(5)]:
                order = plan.order_at(index)
                self.assertTrue(plan.is_order(order))
                self.assertEqual(plan.rank_of(order), index)
            self.refuses(BadIndex, lambda: plan.order_at(many), many)

    def test_sequences_are_refused_nowhere_exactly_if_they_are_orders(self):
        found = set()
        for rng, plan in small_plans("sequences", 5, 25):
            setup = plan.wanted.setup
            fillings = [rng.choice(("rows", "columns", "rings", "tree", ("walls", 1))) for _ in plan.jobs]
            listed = list(itertools.permutations(range(len(plan.jobs))))
            for order in rng.sample(listed, min(8, len(listed))):
                rows = [row for number in order for row in plain_rows(setup, plan.jobs[number], fillings[number])]
                printer = QuickPrinter(setup, standing=plan.begun)
                self.assertEqual(printer.run(rows) == [], plan.is_order(order))
                if plan.is_order(order):
                    self.assertEqual(printer.standing, plan.stands(order))
                found.add(plan.is_order(order))
        self.assertEqual(found, {True, False})


def plain_rows(setup, job, filling):
    rows = []
    for x0, y0, x1, y1 in strokes_of(job.places, *setup.foot, filling):
        rows.extend([("high", setup.heights[-1]), ("go", x0, y0), ("high", setup.heights[job.layer]), ("lay", x1, y1)])
    return rows


class MadeStandingTest(unittest.TestCase):
    def test_all_jobs_make_the_body_and_the_props(self):
        for seed in range(25):
            wanted, standing = random_case(rng_of("made", seed))
            plan = Plan(wanted, standing)
            self.assertEqual(plan.begun, checked_standing(wanted.setup, standing))
            best, found = greatest(wanted, standing), props(wanted, standing)
            wished = [joined(body, *[foot_at(wanted.setup, *point) for point in points])
                      for body, points in zip(best.body, found)]
            self.assertEqual(plan.stands(list(range(len(plan.jobs)))), tuple(wished))

    def test_props_with_whole_numbers(self):
        wanted = two_layers(EMPTY, rectangle(HALF, HALF, (3, 2), (3, 2)), raster=[(1, 1)])
        self.assertEqual(Plan(wanted).jobs[0].places, dot(*numbers(1, 1)))


if __name__ == "__main__":
    unittest.main()
