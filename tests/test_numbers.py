"""Tests of [5], [6] and [7]: amounts."""

import itertools
import unittest
from fractions import Fraction

from sheetworks.numbers import (
    SCALE, added, divided, floored, half_even, multiplied, negated, raised, read_amount,
    remainder, root, shown_amount, subtracted)

TOP = 10 ** 21 - 1

# Both signs, noughts, neighbours of whole numbers and of the bounds.
SIZES = [0, 1, 2, 3, 5, 7, 499999, 500000, 500001, 999999, 1000000, 1000001, 1500000,
         2500000, 3000000, 33333333, 10 ** 9 + 7, 10 ** 15 + 1, 5 * 10 ** 20, TOP - 1, TOP]
AMOUNTS = sorted({sign * size for size in SIZES for sign in (1, -1)})


def fits(m):
    return m if -TOP <= m <= TOP else "NUM"


def nearest(m, n):
    # round of a Fraction takes the even one of two equally near integers.
    return round(Fraction(m, n))


class Basics(unittest.TestCase):
    def test_scale(self):
        self.assertEqual(SCALE, 1000000)
        self.assertIs(SCALE.__class__, int)

    def test_half_even(self):
        told = [(0, 1, 0), (7, 2, 4), (5, 2, 2), (3, 2, 2), (1, 2, 0), (-1, 2, 0), (-3, 2, -2),
                (-5, 2, -2), (-7, 2, -4), (4, 3, 1), (5, 3, 2), (-4, 3, -1), (-5, 3, -2),
                (9, 1, 9), (-9, 1, -9), (25, 10, 2), (35, 10, 4), (-25, 10, -2), (-35, 10, -4)]
        for a, b, wanted in told:
            self.assertEqual(half_even(a, b), wanted, (a, b))

    def test_half_even_of_all_small_ones(self):
        for a, b in itertools.product(range(-40, 41), range(1, 14)):
            self.assertEqual(half_even(a, b), nearest(a, b), (a, b))

    def test_half_even_of_any_size(self):
        big = 10 ** 90
        self.assertEqual(half_even(big + 1, 2), big // 2)
        self.assertEqual(half_even(big + 3, 2), big // 2 + 2)
        self.assertEqual(half_even(-big - 1, 2), -big // 2)
        self.assertEqual(half_even(1, big), 0)
        self.assertEqual(half_even(big // 2, big), 0)
        self.assertEqual(half_even(big // 2 + 1, big), 1)
        self.assertEqual(half_even(3 * big, 2 * big), 2)
        self.assertEqual(half_even(big * big, big), big)

    def test_by_name(self):
        self.assertEqual(half_even(a=7, b=2), 4)
        self.assertEqual(divided(n=2000000, m=7000000), 3500000)
        self.assertEqual(subtracted(n=2, m=7), 5)
        self.assertEqual(remainder(n=3, m=7), 1)
        self.assertEqual(raised(n=2000000, m=3000000), 9000000)
        self.assertEqual(added(m=1, n=2), 3)
        self.assertEqual(multiplied(m=2000000, n=3), 6)
        self.assertEqual((negated(m=1), floored(m=1), root(m=0)), (-1, 0, 0))
        self.assertEqual((shown_amount(m=1), read_amount(text="1")), ("0.000001", 1000000))

    def test_kinds_of_results(self):
        for m, n in itertools.product(AMOUNTS, AMOUNTS):
            for deed in (added, subtracted, multiplied, divided, remainder, raised):
                result = deed(m, n)
                if result != "NUM" and result != "DIV":
                    self.assertIs(result.__class__, int)
                    self.assertTrue(-TOP <= result <= TOP, (deed, m, n))


class Workings(unittest.TestCase):
    def test_added_and_subtracted(self):
        for m, n in itertools.product(AMOUNTS, AMOUNTS):
            self.assertEqual(added(m, n), fits(m + n))
            self.assertEqual(subtracted(m, n), fits(m - n))

    def test_bounds(self):
        self.assertEqual(added(TOP - 1, 1), TOP)
        self.assertEqual(added(TOP, 1), "NUM")
        self.assertEqual(added(-TOP + 1, -1), -TOP)
        self.assertEqual(added(-TOP, -1), "NUM")
        self.assertEqual(subtracted(-TOP, 0), -TOP)
        self.assertEqual(subtracted(-TOP, 1), "NUM")
        self.assertEqual(subtracted(TOP, -1), "NUM")
        self.assertEqual(multiplied(TOP, SCALE), TOP)
        self.assertEqual(multiplied(TOP, SCALE + 1), "NUM")
        self.assertEqual(multiplied(TOP, -SCALE), -TOP)
        self.assertEqual(multiplied(-TOP, SCALE + 1), "NUM")
        self.assertEqual(divided(TOP, SCALE), TOP)
        self.assertEqual(divided(TOP, SCALE - 1), "NUM")
        self.assertEqual(divided(-TOP, SCALE - 1), "NUM")
        self.assertEqual(divided(TOP, -SCALE), -TOP)

    def test_beyond_by_rounding_alone(self):
        # The product is TOP and a half; the even one of both neighbours is no amount.
        m, n = 1954958940491, 511519694500000
        self.assertEqual(Fraction(m * n, SCALE), TOP + Fraction(1, 2))
        self.assertEqual(multiplied(m, n), "NUM")
        self.assertEqual(multiplied(n, -m), "NUM")
        self.assertEqual(multiplied(m, n - 1), nearest(m * (n - 1), SCALE))

    def test_negated(self):
        for m in AMOUNTS:
            self.assertEqual(negated(m), -m)

    def test_multiplied(self):
        for m, n in itertools.product(AMOUNTS, AMOUNTS):
            self.assertEqual(multiplied(m, n), fits(nearest(m * n, SCALE)))
        told = [(1, 500000, 0), (3, 500000, 2), (5, 500000, 2), (7, 500000, 4),
                (-1, 500000, 0), (3, -500000, -2), (-5, 500000, -2), (-7, -500000, 4)]
        for m, n, wanted in told:
            self.assertEqual(multiplied(m, n), wanted, (m, n))

    def test_divided(self):
        for m, n in itertools.product(AMOUNTS, AMOUNTS):
            wanted = fits(nearest(m * SCALE, n)) if n != 0 else "DIV"
            self.assertEqual(divided(m, n), wanted, (m, n))
        told = [(7000000, 2000000, 3500000), (1, 2000000, 0), (3, 2000000, 2), (-3, 2000000, -2),
                (3, -2000000, -2), (5, -2000000, -2), (-7, -2000000, 4), (0, -5, 0)]
        for m, n, wanted in told:
            self.assertEqual(divided(m, n), wanted, (m, n))

    def test_divided_by_nought(self):
        for m in (0, 1, -1, TOP, -TOP):
            self.assertEqual(divided(m, 0), "DIV")
            self.assertEqual(remainder(m, 0), "DIV")

    def test_floored(self):
        told = [(0, 0), (1, 0), (999999, 0), (1000000, 1000000), (1999999, 1000000),
                (-1, -1000000), (-1000000, -1000000), (-1000001, -2000000),
                (TOP, 10 ** 21 - 10 ** 6), (-TOP, "NUM"),
                (-(10 ** 21 - 10 ** 6), -(10 ** 21 - 10 ** 6)),
                (-(10 ** 21 - 10 ** 6) - 1, "NUM")]
        for m, wanted in told:
            self.assertEqual(floored(m), wanted, m)

    def test_remainder(self):
        told = [(7, 3, 1), (-7, 3, 2), (7, -3, -2), (-7, -3, -1), (6, 3, 0), (-6, -3, 0),
                (6, -3, 0), (0, 5, 0), (2, 5, 2), (-2, 5, 3), (2, -5, -3), (-2, -5, -2),
                (5500000, 2000000, 1500000), (TOP, -1, 0), (-1, TOP, TOP - 1), (1, -TOP, 1 - TOP)]
        for m, n, wanted in told:
            self.assertEqual(remainder(m, n), wanted, (m, n))

    def test_remainder_as_told(self):
        for m, n in itertools.product(range(-30, 31), [*range(-9, 0), *range(1, 10)]):
            multiples = range(-40, 41)
            if n > 0:
                q = max(q for q in multiples if n * q <= m)
            else:
                q = max(q for q in multiples if n * q >= m)
            self.assertEqual(remainder(m, n), m - n * q, (m, n))


class Roots(unittest.TestCase):
    def test_squares_and_beside_them(self):
        told = [(0, 0), (1000000, 1000000), (999999, 999999), (1000001, 1000000),
                (4000000, 2000000), (3999999, 1999999), (4000001, 2000000), (2000000, 1414213),
                (1, 1000), (2, 1414), (2250000, 1500000), (144000000, 12000000)]
        for m, wanted in told:
            self.assertEqual(root(m), wanted, m)

    def test_as_told(self):
        for m in AMOUNTS:
            if m >= 0:
                r = root(m)
                self.assertTrue(r >= 0 and r * r <= m * SCALE < (r + 1) * (r + 1), m)

    def test_below_nought(self):
        for m in (-1, -1000000, -TOP):
            self.assertEqual(root(m), "NUM")


class Powers(unittest.TestCase):
    def check(self, told):
        for m, k, wanted in told:
            self.assertEqual(raised(m, k * SCALE), wanted, (m, k))

    def test_ordinary(self):
        self.check([(2000000, 2, 4000000), (2000000, 10, 1024000000), (-2000000, 3, -8000000),
                    (-2000000, 4, 16000000), (1500000, 2, 2250000), (7, 1, 7), (-7, 1, -7),
                    (2000000, -1, 500000), (-2000000, -3, -125000), (3000000, -1, 333333),
                    (3000000, -2, 111111), (TOP, 1, TOP), (-TOP, 1, -TOP)])

    def test_exponent_nought(self):
        self.check([(0, 0, SCALE), (5, 0, SCALE), (-TOP, 0, SCALE)])

    def test_greatest_exponents(self):
        self.check([(SCALE, 64, SCALE), (SCALE, 65, "NUM"), (SCALE, -64, SCALE),
                    (SCALE, -65, "NUM"), (-SCALE, 64, SCALE), (-SCALE, 63, -SCALE),
                    (0, 64, 0), (0, 65, "NUM"), (0, -65, "NUM"), (SCALE, 10 ** 15 - 1, "NUM")])

    def test_exponents_that_are_not_whole(self):
        for n in (1, -1, 500000, 999999, 1000001, -1500000, 63999999, TOP, -TOP):
            self.assertEqual(raised(SCALE, n), "NUM")
            self.assertEqual(raised(0, n), "NUM")

    def test_base_nought(self):
        self.check([(0, 1, 0), (0, 2, 0), (0, -1, "DIV"), (0, -2, "DIV"), (0, -64, "DIV")])

    def test_power_that_rounds_to_nought(self):
        self.check([(1, 2, 0), (1, 64, 0), (1, -2, "DIV"), (-1, -3, "DIV"), (1000, -4, "DIV"),
                    (1000, 2, 1), (1000, -2, 10 ** 12), (1, -1, 10 ** 12), (-1, -1, -10 ** 12)])

    def test_rounded_at_each_step(self):
        # 0.001001 * 0.001001 is 0.000001, and 0.000001 * 0.001001 is 0.
        self.check([(1001, 2, 1), (1001, 3, 0), (1100000, 3, 1331000), (1111111, 3, 1371742)])
        for m, k in itertools.product((1234567, 3333333, -1999999, 707107), range(1, 20)):
            power = m
            for _ in range(k - 1):
                power = nearest(power * m, SCALE)
            self.assertEqual(raised(m, k * SCALE), power, (m, k))

    def test_from_the_left(self):
        # Squares that are squared again would give another amount here.
        m = 1234567
        square = multiplied(m, m)
        self.assertNotEqual(multiplied(square, square), multiplied(multiplied(square, m), m))
        self.assertEqual(raised(m, 4 * SCALE), multiplied(multiplied(square, m), m))

    def test_steps_that_are_no_amounts(self):
        self.check([(10 ** 7, 14, 10 ** 20), (10 ** 7, 15, "NUM"), (10 ** 7, 16, "NUM"),
                    (10 ** 7, 64, "NUM"), (-10 ** 7, 15, "NUM"), (TOP, 2, "NUM"),
                    (10 ** 7, -14, 0), (10 ** 7, -6, 1), (10 ** 7, -15, "NUM"),
                    (10 ** 7, -64, "NUM"), (TOP, -2, "NUM"), (TOP, -1, 0)])


class Strings(unittest.TestCase):
    def test_shown(self):
        told = [(0, "0"), (1, "0.000001"), (-1, "-0.000001"), (1000000, "1"), (-1000000, "-1"),
                (1500000, "1.5"), (-1500000, "-1.5"), (10 ** 7, "10"), (120340000, "120.34"),
                (999999, "0.999999"), (-500000, "-0.5"), (1000010, "1.00001"),
                (TOP, "999999999999999.999999"), (-TOP, "-999999999999999.999999")]
        for m, wanted in told:
            self.assertEqual(shown_amount(m), wanted)

    def test_shown_is_read_again(self):
        many = [sign * (k * 7919 ** power % (TOP + 1))
                for k in range(1, 60) for power in range(6) for sign in (1, -1)]
        for m in AMOUNTS + many:
            self.assertEqual(read_amount(shown_amount(m)), m)

    def check(self, told):
        for text, wanted in told:
            found = read_amount(text)
            self.assertEqual(found, wanted, repr(text))
            if wanted is not None:
                self.assertIs(found.__class__, int)

    def test_read(self):
        self.check([("0", 0), ("7", 7000000), ("12", 12000000), ("1.5", 1500000),
                    ("-1.5", -1500000), ("+1.5", 1500000), ("0.000001", 1), ("-0", 0),
                    ("+0.0", 0), ("-0.0000001", 0), ("0.5", 500000)])

    def test_noughts(self):
        self.check([("007", 7000000), ("000000000000001", 1000000), ("1.500000", 1500000),
                    ("1.000000000000", 1000000), ("00.50", 500000), ("-00", 0)])

    def test_blanks(self):
        self.check([(" 7", 7000000), ("7 ", 7000000), ("   -7.5   ", -7500000), ("", None),
                    (" ", None), ("1 2", None), ("- 7", None), ("+ 7", None), ("1. 5", None),
                    ("1 .5", None), ("7\t", None), ("\t7", None), ("7\n", None), ("\n7", None),
                    ("7\r", None), ("7\x0b", None), ("7\x0c", None), ("7\xa0", None),
                    ("\u20037", None), (" \t7", None)])

    def test_signs(self):
        self.check([("+", None), ("-", None), (" - ", None), ("+-7", None), ("-+7", None),
                    ("--7", None), ("++7", None), ("7-", None), ("7+", None), ("-.", None)])

    def test_points(self):
        self.check([(".", None), ("7.", None), (".7", None), ("-.7", None), ("-7.", None),
                    ("1.2.3", None), ("1..2", None), ("1.2.", None), ("1,5", None),
                    ("1.-5", None), ("1.+5", None)])

    def test_how_many_figures(self):
        self.check([("123456789012345", 123456789012345000000), ("1234567890123456", None),
                    ("0000000000000001", None), ("000000000000000", 0),
                    ("-999999999999999", -999999999999999000000),
                    ("1.123456000000", 1123456), ("1.1234560000000", None),
                    ("0.000000000001", 0), ("0.0000000000001", None),
                    ("1.000000000000", 1000000), ("1.0000000000000", None)])

    def test_half_even_behind_millionths(self):
        self.check([("0.0000005", 0), ("0.0000015", 2), ("0.0000025", 2), ("0.0000035", 4),
                    ("-0.0000005", 0), ("-0.0000015", -2), ("-0.0000025", -2),
                    ("-0.0000035", -4), ("0.0000004", 0), ("0.0000006", 1),
                    ("0.000000500001", 1), ("0.000000499999", 0), ("0.000002500000", 2),
                    ("0.000002500001", 3), ("0.000001499999", 1), ("0.9999995", 1000000),
                    ("0.9999994", 999999), ("-0.0000006", -1)])

    def test_no_amount(self):
        self.check([("999999999999999.999999", TOP), ("-999999999999999.999999", -TOP),
                    ("999999999999999.9999994", TOP), ("-999999999999999.999999499999", -TOP),
                    ("999999999999999.9999995", None), ("-999999999999999.9999995", None),
                    ("999999999999999.999999999999", None)])

    def test_other_signs(self):
        self.check([("abc", None), ("1a", None), ("a1", None), ("x7", None), ("7x", None),
                    ("1e5", None), ("1E5", None),
                    ("0x1", None), ("1_000", None), ("\u0663", None), ("\uff11", None),
                    ("\u00b2", None), ("1.\u0663", None), ("inf", None), ("nan", None),
                    ("'7", None), ("=7", None), ("1/2", None), ("7%", None), ("\x00", None)])


if __name__ == "__main__":
    unittest.main()
