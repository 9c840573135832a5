"""Tests of [47]: library functions over numbers."""

import math
import random
import unittest

from sheetworks.numbers import raised, remainder, root
from sheetworks.values import number_of
from tests.helping import SCALE, TOP, FormulaCase, Told, evaluated, number, read

GREATEST = "999999999999999.999999"


def worked(word, *amounts):
    """What a function makes of cells with these amounts."""
    cells = {(0, 0, at): ("number", m) for at, m in enumerate(amounts)}
    formula = f"={word}(" + ",".join(["A1", "B1"][:len(amounts)]) + ")"
    return evaluated(read(formula), 0, Told(cells))[0]


def some_amounts(many):
    draw = random.Random(1)
    found = [0, 1, -1, SCALE, -SCALE, SCALE - 1, 1 - SCALE, SCALE // 2, -SCALE // 2, 3 * SCALE // 2, TOP, -TOP,
             TOP - 1,
             10 ** 20, -10 ** 20, 2500000, 3500000, -2500000, 10 * SCALE, 15 * SCALE, 25 * SCALE]
    while len(found) < many:
        found.append(draw.randrange(-10 ** draw.randrange(1, 22), 10 ** draw.randrange(1, 22)))
    return [m for m in found if -TOP <= m <= TOP]


class Numbers(FormulaCase):
    def test_one_number(self):
        for m in some_amounts(200):
            self.assertEqual(worked("ABS", m), ("number", abs(m)))
            self.assertEqual(worked("SIGN", m), number((m > 0) - (m < 0)))
            whole = math.floor(m / SCALE) if abs(m) < 10 ** 15 else m // SCALE
            floor = m - m % SCALE
            self.assertEqual(floor // SCALE, whole)
            self.assertEqual(worked("INT", m), number_of(floor if abs(floor) <= TOP else "NUM"))
            self.assertEqual(worked("TRUNC", m), ("number", floor if m >= 0 or m % SCALE == 0 else floor + SCALE))
            self.assertEqual(worked("SQRT", m), number_of(root(m)))
        self.check((f"=INT(-{GREATEST})", "#NUM"), (f"=TRUNC(-{GREATEST})", number("-999999999999999")),
                   ("=INT(-0.5)", -1), ("=TRUNC(-0.5)", 0), ("=TRUNC(1.9)", 1), ("=ABS(-2.5)", number("2.5")),
                   ("=SQRT(-1)", "#NUM"),
                   ("=SQRT(2)", number("1.414213")), ("=SIGN(-0.000001)", -1))

    def test_round(self):
        for m in some_amounts(120):
            for figures in range(-17, 9):
                self.assertEqual(worked("ROUND", m, figures * SCALE), self.rounded(m, figures), (m, figures))
        self.check(("=ROUND(2.5,0)", 2), ("=ROUND(3.5,0)", 4), ("=ROUND(-2.5,0)", -2),
                   ("=ROUND(0.15,1)", number("0.2")),
                   ("=ROUND(0.25,1)", number("0.2")), ("=ROUND(25,-1)", 20), ("=ROUND(1.5,0.9)", 2),
                   ("=ROUND(1.5,-0.1)", 0),
                   ("=ROUND(1,7)", "#NUM"), ("=ROUND(1,-16)", "#NUM"), ("=ROUND(1,6.5)", 1),
                   ("=ROUND(1,-15.5)", "#NUM"),
                   (f"=ROUND({GREATEST},0)", "#NUM"), (f"=ROUND({GREATEST},-15)", "#NUM"),
                   (f"=ROUND({GREATEST},6)", ("number", TOP)),
                   ("=ROUND(400000000000000,-15)", 0), ("=ROUND(1.234567,3)", number("1.235")))

    def rounded(self, m, figures):
        if not -15 <= figures <= 6:
            return number_of("NUM")
        unit = 10 ** (6 - figures)
        below, rest = m // unit, m % unit
        up = 2 * rest > unit or (2 * rest == unit and below % 2 == 1)
        found = (below + up) * unit
        return number_of(found if abs(found) <= TOP else "NUM")

    def test_two_numbers(self):
        amounts = some_amounts(60)
        for m in amounts:
            for n in amounts:
                self.assertEqual(worked("MOD", m, n), number_of(remainder(m, n)))
                self.assertEqual(worked("POWER", m, n), number_of(raised(m, n)))
                self.assertEqual(worked("QUOTIENT", m, n), self.quotient(m, n))
        self.check(("=MOD(7,-3)", -2), ("=MOD(1,0)", "#DIV"), ("=QUOTIENT(7,2)", 3), ("=QUOTIENT(-7,2)", -3),
                   ("=QUOTIENT(7,-2)", -3),
                   ("=QUOTIENT(-7,-2)", 3), ("=QUOTIENT(1,0)", "#DIV"), ("=QUOTIENT(0,0)", "#DIV"),
                   ("=QUOTIENT(0,-5)", 0),
                   (f"=QUOTIENT({GREATEST},0.000001)", "#NUM"), ("=QUOTIENT(0.9,0.3)", 3), ("=POWER(2,10)", 1024),
                   ("=POWER(2,0.5)", "#NUM"),
                   ("=POWER(0,-1)", "#DIV"), ("=POWER(2,65)", "#NUM"), ("=POWER(10,15)", "#NUM"),
                   ("=POWER(2,-1)", number("0.5")))

    def quotient(self, m, n):
        if n == 0:
            return number_of("DIV")
        size = abs(m) // abs(n) * SCALE
        found = size if (m >= 0) == (n > 0) else -size
        return number_of(found if abs(found) <= TOP else "NUM")

    def test_common_ones(self):
        for a in range(0, 25):
            for b in range(0, 25):
                self.assertEqual(worked("GCD", a * SCALE, b * SCALE), number(math.gcd(a, b)))
                self.assertEqual(worked("LCM", a * SCALE, b * SCALE), number(math.lcm(a, b)))
        self.check(("=GCD(0,0)", 0), ("=GCD(0,7)", 7), ("=GCD(12.9,18.9)", 6), ("=GCD(-0.5,3)", "#NUM"),
                   ("=GCD(3,-1)", "#NUM"),
                   ("=GCD(-1,3)", "#NUM"), ("=LCM(0,-1)", "#NUM"), ("=LCM(-1,0)", "#NUM"), ("=LCM(4.7,6.2)", 12),
                   ("=LCM(0,5)", 0),
                   ("=LCM(999999999999999,999999999999998)", "#NUM"),
                   ("=LCM(999999999999999,1)", number("999999999999999")),
                   ("=GCD(999999999999999,333333333333333)", number("333333333333333")),
                   ("=LCM(3,500000000000000)", "#NUM"))

    def test_conversions(self):
        for word in ("ABS", "SIGN", "INT", "TRUNC", "SQRT"):
            self.check((f"={word}(TRUE)", 1), (f'={word}("1")', 1), (f"={word}(J9)", 0), (f'={word}("x")', "#VALUE"),
                       (f"={word}(#NA!)", "#NA"), (f'={word}("")', "#VALUE"), (f"={word}(LAMBDA(1))", "#CALC"),
                       (f"={word}(A:J)", "#SIZE"), (f"={word}({{1,TRUE,#NA!}})", [[1, 1, "#NA"]]))
        for word in ("ROUND", "MOD", "QUOTIENT", "POWER", "GCD", "LCM"):
            self.check((f'={word}("x",#NA!)', "#NA"), (f'={word}(#REF!,#NA!)', "#REF"), (f'={word}("x",1)', "#VALUE"),
                       (f'={word}(1,"x")', "#VALUE"), (f'={word}(TRUE,"1")', {"MOD": 0}.get(word, 1)))
        self.check(("=GCD(,4)", 4), ("=MOD(4,)", "#DIV"), ("=ROUND(2.4,)", 2), ("=POWER(,)", 1))
        # Errors of both go ahead of conversions; then these are made from the left.
        self.check((f'=GCD("x",-{GREATEST})', "#VALUE"), (f'=GCD(-{GREATEST},"x")', "#NUM"),
            (f"=ROUND(1,-{GREATEST})", "#NUM"))


if __name__ == "__main__":
    unittest.main()
