import unittest

from mostlaid.coderows import is_row, read_code, shortened, write_code
from mostlaid.errors import BadText
from mostlaid.setups import Setup

from tests.bodies import BED, HALF
from tests.cases import RefusalCase

SETUP = Setup([0, 1, (5, 2)], BED)
SIXTY, MORE = "1" + "0" * 59, "1" + "0" * 60
ROWS = [("high", 0), ("high", (0, 1)), ("high", 1), ("high", (5, 2)), ("high", HALF), ("high", (9, 4)), ("go", 0, 0),
        ("go", -7, HALF), ("go", (-1, 3), (10 ** 70, 7)), ("lay", 0, 0), ("lay", (3, 2), -1), ("lay", (4, 1), (5, 1))]
NO_ROWS = [None, True, 0, "", "go", "go 1 1", (), [], ("go",), ("high",), ("lay", 1), ("go", 1, 2, 3), ("high", 1, 1),
           ["go", 1, 2], ["high", 1], ("Go", 1, 2), ("up", 1), ("", 1, 2), (None, 1, 2), (True, 1), (0, 1, 2), (["go"], 1, 2),
           (("go",), 1, 2), (("go", 1, 2),), ("go", (1, 2)), ("go", True, 1), ("go", 1, False), ("high", True), ("high", False),
           ("high", None), ("high", "1"), ("lay", "1", "2"), ("lay", (2, 4), 1), ("lay", 1, (2, 2)), ("lay", 1, (1, 0)),
           ("lay", 1, (1, -2)), ("lay", [1, 2], 1), ("lay", (1, 2, 3), 1), ("lay", (1,), 1), ("lay", (True, 2), 1),
           ("lay", 1, (1, True)), ("high", -1), ("high", (-1, 100)), ("high", 3), ("high", (26, 10)), ("high", (251, 100)),
           ("high", (4, 2)), ("high", (1, 1), 0), ("go", None, None)]
# The wrong lines, with all that may be wrong with a number.
WRONG_LINES = ["", " ", "go", "go 1", "go 1 2 3", "high", "high 1 2", "lay 1", "lay", "Go 1 2", "GO 1 2", "up 1", "go  1 2", "go 1  2",
               " go 1 2", "go 1 2 ", "go\t1 2", "go 1 2\r", "go,1,2", "go 1,2", "high x", "high 1.5", "high +1", "high --1", "high -",
               "high 01", "high 00", "high -0", "high -01", "high 0/2", "high 2/1", "high 1/1", "high 0/1", "high 1/0", "high 2/4",
               "high -2/4", "high 1/-2", "high -1/-2", "high 1/2/3", "high /2", "high 1/", "high /", "high 1/02", "high 01/2",
               "high 1 /2", "high 1e3", "high 1_000", "high " + MORE, "high -" + MORE, "high 1/" + MORE, "high " + MORE + "/7",
               "high (1, 2)", "go None 1", "go 1 True", "high \u0661", "high 1\u00b2", "1 2", "go/1/2", "lay 1 2\x0b", "lay\u00a01 2"]


def pair(a):
    return (a, 1) if isinstance(a, int) else a


class RowTest(unittest.TestCase):
    def test_rows(self):
        for row in ROWS:
            self.assertIs(is_row(setup=SETUP, value=row), True, row)

    def test_values_that_are_no_rows(self):
        for row in NO_ROWS:
            self.assertIs(is_row(SETUP, row), False, row)

    def test_heights_are_those_of_the_setup(self):
        for top, wished in ((1, False), ((3, 2), False), (2, True), (3, True)):
            self.assertIs(is_row(Setup([0, top], BED), ("high", 2)), wished)
            self.assertIs(is_row(Setup([0, top], BED), ("go", 2, 2)), True)
        self.assertIs(is_row(Setup([0, (3, 2)], BED), ("high", (3, 2))), True)
        self.assertIs(is_row(Setup([0, (3, 2)], BED), ("high", (31, 20))), False)


class TextTest(RefusalCase):
    def test_write(self):
        self.assertEqual(write_code([]), "")
        self.assertEqual(write_code(()), "")
        self.assertEqual(write_code([("lay", (3, 2), -1)]), "lay 3/2 -1\n")
        self.assertEqual(write_code(code=[("high", (0, 1)), ("go", (-7, 2), (4, 1)), ("lay", 0, (-1, 3))]),
                         "high 0\ngo -7/2 4\nlay 0 -1/3\n")

    def test_read(self):
        self.assertEqual(read_code(""), [])
        self.assertEqual(read_code("lay 3/2 -1\n"), [("lay", (3, 2), (-1, 1))])
        self.assertEqual(read_code(text="high 0\ngo -7/2 4\nlay 0 -1/3\n"),
                         [("high", (0, 1)), ("go", (-7, 2), (4, 1)), ("lay", (0, 1), (-1, 3))])

    def test_high_rows_beyond_all_heights_are_read(self):
        self.assertEqual(read_code("high -5\nhigh 1000\nhigh -1/2\n"),
                         [("high", (-5, 1)), ("high", (1000, 1)), ("high", (-1, 2))])

    def test_long_numbers(self):
        for text in (SIXTY, "-" + SIXTY, "1/" + SIXTY, "-" + "3" * 60 + "/" + SIXTY):
            rows = read_code("high " + text + "\n")
            self.assertEqual(write_code(rows), "high " + text + "\n")
        self.assertEqual(read_code("high " + SIXTY + "\n"), [("high", (10 ** 59, 1))])
        self.assertEqual(write_code([("high", 10 ** 60)]), "high " + MORE + "\n")

    def test_there_and_back(self):
        text = write_code(ROWS[:8] + ROWS[9:])
        rows = read_code(text)
        self.assertEqual(rows, [row[:1] + tuple(pair(x) for x in row[1:]) for row in ROWS[:8] + ROWS[9:]])
        self.assertEqual(write_code(rows), text)

    def test_wrong_lines(self):
        for line in WRONG_LINES:
            self.refuses(BadText, lambda: read_code(line + "\n"), 0, "form")
            self.refuses(BadText, lambda: read_code("go 1 2\n" + line + "\n"), 1, "form")
            self.refuses(BadText, lambda: read_code("go 1 2\nhigh 1\n" + line + "\nlay 1 2\n"), 2, "form")
            if line:
                self.refuses(BadText, lambda: read_code(line), 0, "form")
                self.refuses(BadText, lambda: read_code("go 1 2\n" + line), 1, "form")

    def test_the_first_wrong_line_counts(self):
        self.refuses(BadText, lambda: read_code("go 1 2\ngo 1\nlay\ngo 1 2"), 1, "form")
        self.refuses(BadText, lambda: read_code("go 1 2\n\n\n"), 1, "form")
        self.refuses(BadText, lambda: read_code("\n"), 0, "form")

    def test_missing_line_feeds(self):
        self.refuses(BadText, lambda: read_code("go 1 2"), 0, "end")
        self.refuses(BadText, lambda: read_code("go 1 2\nhigh -9"), 1, "end")
        self.refuses(BadText, lambda: read_code("go 1 2\nlay 1 2\ngo 2/4 1"), 2, "form")
        self.refuses(BadText, lambda: read_code("go 1\nlay 1 2"), 0, "form")
        self.refuses(BadText, lambda: read_code("g"), 0, "form")

    def test_values_that_are_no_strings(self):
        for value in (None, True, 0, 7, (), [], ("go 1 2\n",), ["go 1 2\n"], [("go", 1, 2)], (1, (2, (3,)))):
            self.refuses(BadText, lambda: read_code(value), 0, "form")


class ShortenedTest(unittest.TestCase):
    def test_shares(self):
        for share, wished in ((0, (1, 2)), (1, (5, -1)), (HALF, (3, HALF)), ((1, 3), ((7, 3), 1)), ((3, 4), (4, (-1, 4)))):
            for word in ("go", "lay"):
                self.assertEqual(shortened((word, 5, -1), (1, 2), share), (word,) + tuple(pair(x) for x in wished))

    def test_all_numbers_are_tuples(self):
        self.assertEqual(shortened(row=("lay", 1, (1, 2)), place=((1, 2), 1), share=(1, 1)), ("lay", (1, 1), (1, 2)))
        self.assertEqual(shortened(("go", 3, 3), (3, 3), (5, 7)), ("go", (3, 1), (3, 1)))


if __name__ == "__main__":
    unittest.main()
