"""Amounts: integers that stand for millionths, and how they are worked with.

A result that is no amount is told by a word: "NUM" where it does not fit or
is not defined, "DIV" for a division by nought.
"""

from math import isqrt

SCALE = 1000000
GREATEST = 10 ** 21 - 1
GREATEST_POWER = 64
FIGURES_AHEAD = 15
FIGURES_BEHIND = 12


def half_even(a, b):
    """The integer nearest to a / b, of two equally near ones the even one."""
    below, rest = divmod(a, b)
    if 2 * rest > b:
        return below + 1
    if 2 * rest == b:
        return below + below % 2
    return below


def fitting(m):
    """The integer m itself if it is an amount, otherwise "NUM"."""
    if -GREATEST <= m <= GREATEST:
        return m
    return "NUM"


def added(m, n):
    """The sum of two amounts."""
    return fitting(m + n)


def subtracted(m, n):
    """The amount m less the amount n."""
    return fitting(m - n)


def negated(m):
    """The amount m with the other sign."""
    return fitting(-m)


def multiplied(m, n):
    """The product of two amounts, half even."""
    return fitting(half_even(m * n, SCALE))


def divided(m, n):
    """The amount m divided by the amount n, half even."""
    if n == 0:
        return "DIV"
    if n < 0:
        # half_even wants what it divides by above 0.
        return fitting(half_even(-m * SCALE, -n))
    return fitting(half_even(m * SCALE, n))


def floored(m):
    """The greatest whole amount that is not above m."""
    return fitting(m - m % SCALE)


def remainder(m, n):
    """What is left of m behind whole times n; it has the sign of n."""
    if n == 0:
        return "DIV"
    return fitting(m % n)


def root(m):
    """The square root, rounded down to millionths."""
    if m < 0:
        return "NUM"
    return fitting(isqrt(m * SCALE))


def raised(m, n):
    """The amount m to the power n, which has to be whole."""
    if n % SCALE != 0 or abs(n) > GREATEST_POWER * SCALE:
        return "NUM"
    if n == 0:
        return SCALE
    if n > 0:
        return multiplied_often(m, n // SCALE)
    power = multiplied_often(m, -n // SCALE)
    if power == "NUM":
        return "NUM"
    # A power that is 0, as that of 0 is, can not divide: "DIV".
    return divided(SCALE, power)


def multiplied_often(m, times):
    """The product of so many m, from the left, rounded at each step."""
    power = fitting(m)
    for _ in range(times - 1):
        if power == "NUM":
            return "NUM"
        power = multiplied(power, m)
    return power


def shown_amount(m):
    """The amount as figures, with a point only where one is needed."""
    sign = "-" if m < 0 else ""
    whole, millionths = divmod(abs(m), SCALE)
    if millionths == 0:
        return f"{sign}{whole}"
    behind = str(millionths).zfill(6).rstrip("0")
    return f"{sign}{whole}.{behind}"


def read_amount(text):
    """The amount that any string tells, or None."""
    unsigned = text.strip(" ")
    is_below = unsigned.startswith("-")
    if is_below or unsigned.startswith("+"):
        unsigned = unsigned[1:]
    ahead, point, behind = unsigned.partition(".")
    if not are_figures(ahead, FIGURES_AHEAD):
        return None
    if point != "" and not are_figures(behind, FIGURES_BEHIND):
        return None
    # With all 12 figures behind the point exact counts millionths of millionths.
    exact = int(ahead + behind.ljust(FIGURES_BEHIND, "0"))
    size = half_even(exact, 10 ** 6)
    if fitting(size) == "NUM":
        return None
    return -size if is_below else size


def are_figures(text, most):
    """Whether text is 1 to most of the figures 0 to 9."""
    # isdigit alone would let figures of other scripts, too.
    return text.isascii() and text.isdigit() and len(text) <= most
