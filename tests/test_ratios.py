import random
import unittest
from fractions import Fraction

from mostlaid.errors import BadNumber
from mostlaid.ratios import (compare, exact, greatest_of, in_order, is_number, least, minus, number_text, over, plus,
                             times)

VALUES = (0, 1, -1, 7, -12, (1, 2), (-1, 2), (7, 12), (-35, 6), 1000, -1000, (11999, 12), 10 ** 40, -10 ** 70,
          (10 ** 50, 3), (-1, 10 ** 61), (2 ** 90, 3 ** 70))

NO_NUMBERS = (None, True, False, "", " ", "1.5", "1e3", "-0", "+1", "01", "-01", "00", "2/4", "1/1", "0/1", "0/3",
              "-0/3", "1/0", "1/-2", "-1/-2", "1/", "/2", "/", "-", "--1", "1/2/3", "1/02", "01/2", "1 /2", " 1", "1 ",
              "1\n", "1_000", "0x1", "one", "\u0661", "\u00b2", "1" * 61, "-" + "1" * 61, "1/" + "3" * 61,
              "1" * 61 + "/2", [], [1, 2], [1], (), (1,), (1, 2, 3), (1, 0), (0, 0), (True, 2), (1, True), (1, False),
              ("1", 2), (1, None), ((1, 2), 3), ([1], 2))


def value_of(a):
    return Fraction(a) if isinstance(a, int) else Fraction(a[0], a[1])


def form(a):
    a = Fraction(a)
    return (a.numerator, a.denominator)


class RatiosTest(unittest.TestCase):
    def same(self, got, wanted):
        self.assertIsInstance(got, tuple)
        self.assertEqual(got, form(wanted))
        self.assertEqual([type(part) for part in got], [int, int])

    def test_sums_differences_products_quotients(self):
        for a in VALUES:
            for b in VALUES:
                x, y = value_of(a), value_of(b)
                self.same(plus(a, b), x + y)
                self.same(minus(a, b), x - y)
                self.same(times(a, b), x * y)
                if y != 0:
                    self.same(over(a, b), x / y)

    def test_a_quotient_by_zero(self):
        for a in VALUES:
            for b in (0, (0, 1)):
                with self.assertRaises(BadNumber) as held:
                    over(a, b)
                self.assertEqual(held.exception.value, (0, 1))
                self.assertIsInstance(held.exception.value, tuple)

    def test_by_name(self):
        self.assertEqual(minus(b=1, a=(1, 2)), (-1, 2))
        self.assertEqual(over(b=4, a=2), (1, 2))
        self.assertEqual(plus(a=1, b=1), (2, 1))
        self.assertEqual(times(a=3, b=(1, 3)), (1, 1))
        self.assertEqual(compare(b=1, a=0), -1)
        self.assertEqual(exact(value="3"), (3, 1))
        self.assertEqual(is_number(value=3), True)
        self.assertEqual(least(numbers=[2, 1]), (1, 1))
        self.assertEqual(greatest_of(numbers=[2, 1]), (2, 1))
        self.assertEqual(in_order(numbers=[2, 1]), [(1, 1), (2, 1)])
        self.assertEqual(number_text(a=(1, 2)), "1/2")

    def test_compare(self):
        for a in VALUES:
            for b in VALUES:
                x, y = value_of(a), value_of(b)
                got = compare(a, b)
                self.assertEqual(got, (x > y) - (x < y))
                self.assertIs(type(got), int)

    def test_numbers_are_compared_by_value_and_not_as_tuples(self):
        self.assertEqual(compare((5, 12), (1, 2)), -1)
        self.assertEqual(compare((-1, 2), (-1, 3)), -1)
        self.assertEqual(in_order([(5, 12), (1, 2), (-1, 2), (-1, 3)]), [(-1, 2), (-1, 3), (5, 12), (1, 2)])
        self.assertEqual(least([(1, 2), (5, 12)]), (5, 12))
        self.assertEqual(greatest_of([(5, 12), (1, 2)]), (1, 2))

    def test_least_greatest_in_order(self):
        rng = random.Random(3)
        for _ in range(200):
            some = [rng.choice(VALUES) for _ in range(rng.randint(1, 12))]
            kept = list(some)
            values = [value_of(a) for a in some]
            self.same(least(some), min(values))
            self.same(greatest_of(some), max(values))
            got = in_order(some)
            self.assertIsInstance(got, list)
            self.assertEqual(got, [form(a) for a in sorted(set(values))])
            self.assertEqual(some, kept)
        self.assertEqual(in_order([]), [])
        self.assertEqual(in_order([2, (2, 1), 2]), [(2, 1)])
        self.assertEqual(in_order(((1, 2), 0)), [(0, 1), (1, 2)])
        self.assertEqual(least([3]), (3, 1))

    def test_numbers_that_are_very_near(self):
        n = 10 ** 30
        some = [(n + 1, n), (n + 2, n + 1), (n, n - 1), 1]
        self.assertEqual(in_order(some), [(1, 1), (n + 2, n + 1), (n + 1, n), (n, n - 1)])

    def test_exact_for_numbers(self):
        self.assertEqual(exact(0), (0, 1))
        self.assertEqual(exact(-5), (-5, 1))
        self.assertEqual(exact(10 ** 100), (10 ** 100, 1))
        self.assertEqual(exact((2, 4)), (1, 2))
        self.assertEqual(exact((2, -4)), (-1, 2))
        self.assertEqual(exact((-2, -4)), (1, 2))
        self.assertEqual(exact((0, -7)), (0, 1))
        self.assertEqual(exact((6, 3)), (2, 1))
        self.assertEqual(exact((7, 2)), (7, 2))

    def test_exact_for_texts(self):
        for text, wanted in (("0", 0), ("7", 7), ("-7", -7), ("10", 10), ("7/2", Fraction(7, 2)),
                             ("-7/2", Fraction(-7, 2)), ("1/12", Fraction(1, 12)), ("9" * 60, 10 ** 60 - 1),
                             ("-" + "9" * 60, 1 - 10 ** 60), ("1/" + "9" * 60, Fraction(1, 10 ** 60 - 1)),
                             ("-" + "8" * 60 + "/" + "9" * 60, None)):
            if wanted is None:
                with self.assertRaises(BadNumber):
                    exact(text)
            else:
                self.same(exact(text), wanted)
        top, bottom = 10 ** 60 - 2, 10 ** 60 - 1
        self.assertEqual(exact(f"{top}/{bottom}"), (top, bottom))

    def test_what_is_no_number(self):
        for value in NO_NUMBERS:
            with self.assertRaises(BadNumber) as held:
                exact(value)
            self.assertIs(held.exception.value, value)

    def test_is_number(self):
        for value in VALUES:
            self.assertIs(is_number(value), True)
        for value in NO_NUMBERS + ("1", "1/2", (2, 4), (1, -2), (2, 1, 1), (0, 2), (-2, -4), (3, 3), (0, -1)):
            self.assertIs(is_number(value), False)
        self.assertIs(is_number((0, 1)), True)

    def test_text_there_and_back(self):
        for value in VALUES + ((10 ** 59, 10 ** 60 - 1),):
            text = number_text(value)
            a = value_of(value)
            self.assertEqual(text, str(a))
            if max(len(str(abs(a.numerator))), len(str(a.denominator))) <= 60:
                self.assertEqual(exact(text), form(a))
            else:
                self.assertRaises(BadNumber, exact, text)
        self.assertEqual(number_text(0), "0")
        self.assertEqual(number_text((-7, 2)), "-7/2")
        self.assertEqual(number_text((-7, 1)), "-7")

    def test_text_of_a_number_of_any_length(self):
        self.assertEqual(number_text(10 ** 6000), "1" + "0" * 6000)
        self.assertEqual(number_text((-(10 ** 5000) - 1, 10 ** 4400)), "-1" + "0" * 4999 + "1/1" + "0" * 4400)
        for n in (10 ** 64, 10 ** 64 - 1, 10 ** 128 + 5, 10 ** 63):
            self.assertEqual(number_text(n), str(n))


if __name__ == "__main__":
    unittest.main()
