import itertools
import unittest

from mostlaid.benches import Bench
from mostlaid.errors import NotOrder, Ring
from mostlaid.jobs import Plan, job_hits
from mostlaid.patches import rectangle
from mostlaid.printers import Printer
from mostlaid.quick import QuickPrinter
from mostlaid.sets import joined
from mostlaid.setups import Setup, Wanted

from tests.bodies import BED, EMPTY, HALF, RIGHT, random_grid_case
from tests.cases import RefusalCase
from tests.slow import SlowPrinter, rng_of
from tests.test_makings import SlowMaking


def tower(setup, x, y, high):
    """A body with one post, as many layers high."""
    post = rectangle(x, y, x + 1, y + 1)
    return Wanted(setup, [post if at < high else EMPTY for at in range(setup.layers)])


def small_setup():
    return Setup([0, 1, 2], BED, carriage=(2, HALF))


def random_bench(rng, most):
    """Wanted bodies with one setup."""
    setup = random_grid_case(rng, 2, 6)[0].setup
    wanteds = []
    for _ in range(rng.randint(2, most)):
        wanteds.append(Wanted(setup, random_grid_case(rng, 2, 0)[0].slices))
    return wanteds


def slow_ahead(bench, x, y):
    setup = bench.wanteds[0].setup
    return x != y and any(job_hits(setup, one, other) for one in bench.plans[y].jobs for other in bench.plans[x].jobs)


def stands_right(bench, order):
    return not any(slow_ahead(bench, later, earlier) for k, later in enumerate(order) for earlier in order[:k])


class BenchTest(RefusalCase):
    def test_attributes(self):
        setup = small_setup()
        wanteds = (tower(setup, 0, 0, 1), tower(setup, 5, 5, 2))
        bench = Bench(*wanteds)
        self.assertEqual(bench.wanteds, wanteds)
        self.assertIsInstance(bench.plans, tuple)
        self.assertTrue(all(isinstance(plan, Plan) for plan in bench.plans))
        self.assertEqual([plan.wanted for plan in bench.plans], list(wanteds))
        self.assertEqual([plan.begun for plan in bench.plans], [(EMPTY, EMPTY)] * 2)
        self.assertEqual([len(plan.jobs) for plan in bench.plans], [1, 2])
        self.assertEqual((len(bench), len(Bench(wanteds[0])), len(Bench(*wanteds, *wanteds, *wanteds))), (2, 1, 6))

    def test_ahead_and_order(self):
        setup = small_setup()
        low, high, far = tower(setup, 2, 0, 1), tower(setup, 0, 0, 2), tower(setup, 9, 9, 2)
        bench = Bench(high, far, low)
        found = [(x, y) for x in range(3) for y in range(3) if bench.ahead(x, y)]
        self.assertEqual(found, [(2, 0)])
        self.assertIs(bench.ahead(x=2, y=0), True)
        self.assertIs(bench.ahead(0, 2), False)
        self.assertIs(bench.ahead(0, 0), False)
        self.assertEqual(bench.order(), [1, 2, 0])
        self.assertEqual(Bench(low, high, far).order(), [0, 1, 2])
        self.assertEqual(Bench(far).order(), [0])

    def test_behind_two_bodies(self):
        setup = small_setup()
        towers = [tower(setup, 4, 0, 2), tower(setup, 2, 0, 1), tower(setup, 6, 0, 1), tower(setup, 12, 0, 2)]
        bench = Bench(*towers)
        self.assertEqual([(x, y) for x in range(4) for y in range(4) if bench.ahead(x, y)], [(1, 0), (2, 0)])
        self.assertEqual(bench.order(), [1, 2, 0, 3])
        self.assertEqual(Bench(*towers[::-1]).order(), [0, 1, 2, 3])

    def test_rings(self):
        setup = small_setup()
        left, right, low, far = tower(setup, 0, 0, 2), tower(setup, 2, 0, 2), tower(setup, 4, 0, 1), tower(setup, 9, 9, 2)
        self.refuses(Ring, Bench(left, right).order, [0, 1])
        self.refuses(Ring, Bench(far, left, right).order, [1, 2])
        self.refuses(Ring, Bench(right, far, left, low).order, [0, 2])
        self.refuses(Ring, Bench(far, far).order, [0, 1])

    def test_rings_begin_where_an_index_comes_again(self):
        setup = Setup([0, 1, 2], BED, carriage=(2, HALF))
        # Body 0 stands behind body 2, which stands in a ring with body 1.
        bodies = [tower(setup, 6, 0, 2), tower(setup, 2, 0, 2), Wanted(setup, [joined(rectangle(4, 0, 5, 1), RIGHT), RIGHT])]
        self.assertEqual(slow_ring(Bench(*bodies)), [2, 1])
        self.refuses(Ring, Bench(*bodies).order, [2, 1])

    def test_code(self):
        setup = small_setup()
        bench = Bench(tower(setup, 0, 0, 2), tower(setup, 2, 0, 1))
        rows = bench.code([1, 0])
        self.assertEqual(rows, [("go", (5, 2), HALF), ("high", (1, 1)), ("lay", (5, 2), HALF), ("go", HALF, HALF),
                                ("lay", HALF, HALF), ("high", (2, 1)), ("lay", HALF, HALF)])
        self.assertEqual(bench.code(order=(1, 0)), rows)
        self.assertEqual(Printer(setup).run(rows), [])
        self.assertEqual(QuickPrinter(setup).run(bench.code([0, 1])), [(6, "Touch")])
        self.assertEqual(Bench(Wanted(setup, [EMPTY, EMPTY])).code([0]), [])
        rows.clear()
        self.assertEqual(len(bench.code([1, 0])), 7)

    def test_values_that_are_no_orders(self):
        setup = small_setup()
        bench = Bench(tower(setup, 0, 0, 1), tower(setup, 9, 0, 1))
        for value in (None, True, 0, "", "01", [], (), [0], [1], [0, 0], [0, 1, 1], [0, 2], [-1, 0], [0, True], [False, 1],
                      (True, False), [0, None], [0, "1"], [[0, 1]], [0, [1]], (0, (1, 1)), [0, 1, 2]):
            self.refuses(NotOrder, lambda: bench.code(value))
        self.refuses(NotOrder, lambda: Bench(bench.wanteds[0]).code([False]))

    def test_by_the_words(self):
        found, rings = {True: 0, False: 0}, 0
        for seed in range(40):
            rng = rng_of("bench", seed)
            bench = Bench(*random_bench(rng, 4))
            many = len(bench)
            for x in range(many):
                for y in range(many):
                    self.assertIs(bench.ahead(x, y), slow_ahead(bench, x, y))
            right = [list(order) for order in itertools.permutations(range(many)) if stands_right(bench, order)]
            if right:
                self.assertEqual(bench.order(), right[0])
            else:
                rings += 1
                self.refuses(Ring, bench.order, slow_ring(bench))
            for order in rng.sample(list(itertools.permutations(range(many))), 2):
                self.check_code(bench, order, list(order) in right)
                found[list(order) in right] += 1
        self.assertGreater(min(found.values()), 5)
        self.assertGreater(rings, 2)

    def check_code(self, bench, order, is_right):
        setup = bench.wanteds[0].setup
        rows = bench.code(order)
        self.assertEqual(rows, slow_bench_code(bench, order))
        for kind in (Printer, QuickPrinter):
            self.assertEqual(kind(setup).run(rows) == [], is_right)
        slow = SlowPrinter(setup)
        self.assertEqual(all([slow.do(row) is None for row in rows]), is_right)


def slow_bench_code(bench, order):
    setup = bench.wanteds[0].setup
    place, tip, rows = (0, 0), setup.heights[-1], []
    stands = [EMPTY] * setup.layers
    for body in order:
        making = SlowMaking(bench.wanteds[body], None, "layers", "rows", place, tip, False)
        making.plan.begun = tuple(stands)
        for job in making.plan.jobs:
            rows.extend(making.lay(job.number))
        stands = making.plan.stands(range(len(making.plan.jobs)))
        place = tuple((x.numerator, x.denominator) for x in making.place)
        tip = (making.tip.numerator, making.tip.denominator)
    return rows


def slow_ring(bench):
    left = list(range(len(bench)))
    while True:
        free = [y for y in left if not any(slow_ahead(bench, x, y) for x in left)]
        if not free:
            break
        left.remove(free[0])
    walk = [left[0]]
    while True:
        step = min(x for x in left if slow_ahead(bench, x, walk[-1]))
        if step in walk:
            return walk[walk.index(step):]
        walk.append(step)


if __name__ == "__main__":
    unittest.main()
