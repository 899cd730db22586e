import unittest

from mostlaid.errors import BadLayers
from mostlaid.falls import first_loss
from mostlaid.greatest import kept
from mostlaid.makings import house_code
from mostlaid.patches import rectangle
from mostlaid.sets import less

from tests.bodies import HALF, LEFT, POSTS, WRONG_STANDINGS, one_layer, two_layers
from tests.cases import RefusalCase
from tests.slow import SlowPrinter, random_case, random_row, rng_of, spots_of
from tests.test_coderows import NO_ROWS


def slow_loss(wanted, code, standing):
    printer = SlowPrinter(wanted.setup, standing)
    ahead = kept(wanted, standing)
    for index, row in enumerate(code):
        if printer.do(row) is not None:
            return None
        behind = kept(wanted, printer.standing)
        if any(less(p, q) for p, q in zip(ahead, behind)):
            return index
        ahead = behind
    return None


class FallsTest(RefusalCase):
    TOWER = [("go", HALF, HALF), ("high", 1), ("lay", HALF, HALF), ("high", 2), ("lay", HALF, HALF)]

    def test_posts(self):
        for gap, wished in ((0, 4), (HALF, 4), (1, None)):
            wanted = two_layers(POSTS, POSTS, carriage=(2, HALF), gap=gap)
            self.assertEqual(first_loss(wanted, self.TOWER), wished)
            self.assertEqual(first_loss(wanted=wanted, code=tuple(self.TOWER), standing=None), wished)
            self.assertIsNone(first_loss(wanted, self.TOWER, standing=[LEFT, LEFT]))
            self.assertIsNone(first_loss(wanted, self.TOWER, standing=(POSTS, POSTS)))
            self.assertIsNone(first_loss(wanted, []))

    def test_refused_rows_end_the_run(self):
        wanted = two_layers(POSTS, POSTS, carriage=(2, HALF))
        for value in NO_ROWS:
            self.assertIsNone(first_loss(wanted, [value]))
            self.assertIsNone(first_loss(wanted, self.TOWER[:4] + [value] + self.TOWER[4:]))
            self.assertEqual(first_loss(wanted, self.TOWER + [value]), 4)
        self.assertIsNone(first_loss(wanted, self.TOWER[:4] + [("lay", 9, 9)] + self.TOWER[4:]))

    def test_the_printer_is_not_guarded(self):
        wanted = one_layer(LEFT)
        rows = [("go", 5, 5), ("high", 1), ("lay", 9, 9)]
        self.assertIsNone(first_loss(wanted, rows))
        wanted = two_layers(LEFT, rectangle(0, 0, 2, 1))
        rows = [("go", HALF, HALF), ("high", 1), ("lay", (3, 2), HALF), ("high", 2), ("lay", HALF, HALF)]
        self.assertIsNone(first_loss(wanted, rows))
        rows = [("go", (7, 2), HALF), ("high", 1), ("lay", (7, 2), HALF), ("high", 2), ("lay", (7, 2), HALF), ("go", HALF, HALF)]
        self.assertIsNone(first_loss(wanted, rows))

    def test_what_has_grown_can_be_lost(self):
        wanted = two_layers(rectangle(2, 0, 3, 1), rectangle(0, 0, 1, 1), carriage=(2, HALF))
        rows = [("go", HALF, HALF), ("high", 1), ("lay", HALF, HALF), ("high", 2), ("lay", HALF, HALF)]
        self.assertEqual(first_loss(wanted, rows), 4)

    def test_wrong_standings(self):
        wanted = two_layers(POSTS, POSTS)
        for standing, layer in WRONG_STANDINGS:
            self.refuses(BadLayers, lambda: first_loss(wanted, [None], standing=standing), layer)

    def test_house_code_loses_nothing(self):
        for seed in range(15):
            wanted, standing = random_case(rng_of("no loss", seed))
            self.assertIsNone(first_loss(wanted, house_code(wanted, standing=standing)[:60], standing=standing))

    def test_by_the_words(self):
        found = {}
        for seed in range(60):
            rng = rng_of("falls", seed)
            wanted, standing = random_case(rng)
            printer = SlowPrinter(wanted.setup, standing)
            spots = spots_of(wanted, standing)
            rows = [random_row(rng, wanted.setup, spots) for _ in range(60)]
            code = [row for row in rows if printer.do(row) is None]
            if rng.random() < 0.2:
                code.insert(rng.randint(0, len(code)), rng.choice(NO_ROWS))
            wished = slow_loss(wanted, code, standing)
            self.assertEqual(first_loss(wanted, code, standing=standing), wished)
            found[wished] = True
        self.assertGreater(len(found), 4)
        self.assertIn(None, found)


if __name__ == "__main__":
    unittest.main()
