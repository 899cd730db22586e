import unittest

from mostlaid.coderows import write_code
from mostlaid.makings import house_code
from mostlaid.printers import Printer
from mostlaid.quick import QuickPrinter

from tests.bodies import HALF
from tests.slow import answers, random_case, random_row, rng_of, spots_of
from tests.test_coderows import NO_ROWS, WRONG_LINES


def said(act):
    """What a call returns, or the error that it raises with its values."""
    try:
        return ("returns", act())
    except ValueError as error:
        return (type(error).__name__,) + tuple(vars(error).values())


class BothTest(unittest.TestCase):
    def random_pair(self, rng):
        """Both machines with the same standing and the same wanted body, and rows for them."""
        wanted, standing = random_case(rng)
        guarded = rng.random() < 0.7
        more = {"standing": standing, "wanted": wanted if guarded else None, "careful": guarded and rng.random() < 0.6}
        spots = spots_of(wanted, standing)
        code = house_code(wanted, standing=standing)
        code = code[:rng.randint(0, 20)] + [random_row(rng, wanted.setup, spots) for _ in range(rng.randint(0, 30))]
        for _ in range(rng.randint(0, 3)):
            code.insert(rng.randint(0, len(code)), rng.choice(NO_ROWS))
        return [kind(wanted.setup, **more) for kind in (Printer, QuickPrinter)], code

    def alike(self, printers, act):
        """Looks at what both machines answer to one call."""
        first, second = [said(lambda: act(printer)) for printer in printers]
        self.assertEqual(first, second)
        self.assertEqual(answers(printers[0]), answers(printers[1]))
        self.assertEqual([printer.busy for printer in printers], [False, False])
        return first

    def test_runs(self):
        refused = 0
        for seed in range(60):
            rng = rng_of("runs", seed)
            printers, code = self.random_pair(rng)
            for skip in (False, True):
                for cut in (None, (rng.randint(-2, len(code) + 1), rng.choice((0, HALF, (1, 3), (3, 4), 1)))):
                    pair = [printer.twin() for printer in printers]
                    found = self.alike(pair, lambda printer: printer.run(code, cut=cut, skip=skip))
                    refused += len(found[1])
                    if cut is not None:
                        self.assertEqual(pair[0].tip, pair[0]._terms.setup.heights[-1])
        self.assertGreater(refused, 200)

    def test_rows_and_twins(self):
        for seed in range(40):
            rng = rng_of("rows and twins", seed)
            printers, code = self.random_pair(rng)
            for row in code:
                if rng.random() < 0.1:
                    old, printers = printers, [printer.twin() for printer in printers]
                    before = answers(old[0])
                    self.alike(printers, lambda printer: printer.do(row))
                    self.assertEqual([answers(printer) for printer in old], [before, before])
                else:
                    self.alike(printers, lambda printer: printer.do(row))

    def test_all_or_nothing(self):
        for seed in range(40):
            rng = rng_of("all", seed)
            printers, code = self.random_pair(rng)
            while code:
                many = rng.randint(1, 4)
                rows, code = code[:many], code[many:]
                before = answers(printers[0])
                found = self.alike(printers, lambda printer: printer.do_all(*rows))
                if found[0] != "returns":
                    self.assertEqual(answers(printers[1]), before)

    def test_texts(self):
        for seed in range(30):
            rng = rng_of("texts", seed)
            printers, code = self.random_pair(rng)
            for row in code:
                line = rng.choice(WRONG_LINES) if row in NO_ROWS else write_code([row])
                self.alike(printers, lambda printer: printer(line))

    def test_refused_at_once_and_by_rows(self):
        for seed in range(20):
            rng = rng_of("skip", seed)
            printers, code = self.random_pair(rng)
            by_rows = printers[1].twin()
            names = [said(lambda: by_rows.do(row))[0] for row in code]
            wished = [(index, name) for index, name in enumerate(names) if name != "returns"]
            self.assertEqual([printer.run(code, skip=True) for printer in printers], [wished, wished])
            self.assertEqual(answers(by_rows), answers(printers[0]))


if __name__ == "__main__":
    unittest.main()
