"""Library functions over numbers; all are lifted."""

from sheetworks.numbers import (SCALE, fitting, floored, half_even, negated, raised, remainder,
                                root)
from sheetworks.values import number_of

LEAST_FIGURES = -15
MOST_FIGURES = 6


def size(m):
    """ABS"""
    return number_of(negated(m) if m < 0 else m)


def direction(m):
    """SIGN"""
    if m == 0:
        return number_of(0)
    return number_of(SCALE if m > 0 else -SCALE)


def rounded_down(m):
    """INT"""
    return number_of(floored(m))


def cut(m):
    """TRUNC"""
    return number_of(toward_nought(m, SCALE) * SCALE)


def toward_nought(m, n):
    """The whole part of m / n, toward nought; n is not 0."""
    whole = abs(m) // abs(n)
    return whole if (m < 0) == (n < 0) else -whole


def rounded(m, figures):
    """ROUND"""
    if figures < LEAST_FIGURES or figures > MOST_FIGURES:
        return number_of("NUM")
    unit = 1
    for _ in range(MOST_FIGURES - figures):
        unit = unit * 10
    return number_of(fitting(half_even(m, unit) * unit))


def left_over(m, n):
    """MOD"""
    return number_of(remainder(m, n))


def quotient(m, n):
    """QUOTIENT"""
    if n == 0:
        return number_of("DIV")
    return number_of(fitting(toward_nought(m, n) * SCALE))


def power(m, n):
    """POWER"""
    return number_of(raised(m, n))


def square_root(m):
    """SQRT"""
    return number_of(root(m))


def common_divisor(a, b):
    """GCD"""
    if a < 0 or b < 0:
        return number_of("NUM")
    return number_of(greatest_common(a, b) * SCALE)


def greatest_common(a, b):
    """The greatest common divisor of two integers from 0 on; of two noughts 0."""
    while b > 0:
        a, b = b, a % b
    return a


def common_multiple(a, b):
    """LCM"""
    if a < 0 or b < 0:
        return number_of("NUM")
    if a == 0 or b == 0:
        return number_of(0)
    return number_of(fitting(a // greatest_common(a, b) * b * SCALE))


NUMBER_DEEDS = {
    "ABS": size, "SIGN": direction, "INT": rounded_down, "TRUNC": cut, "ROUND": rounded,
    "MOD": left_over, "QUOTIENT": quotient, "POWER": power, "SQRT": square_root,
    "GCD": common_divisor, "LCM": common_multiple,
}
NUMBER_KINDS = {
    "ABS": ("number",), "SIGN": ("number",), "INT": ("number",), "TRUNC": ("number",),
    "ROUND": ("number", "whole"), "MOD": ("number", "number"), "QUOTIENT": ("number", "number"),
    "POWER": ("number", "number"), "SQRT": ("number",), "GCD": ("whole", "whole"),
    "LCM": ("whole", "whole"),
}
