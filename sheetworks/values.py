"""Values: scalars and arrays, how they convert and how they compare.

A scalar is ("empty",), ("number", m), ("truth", b), ("text", s) or
("error", word); an array is ("array", h, w, members), row by row.
"""

from sheetworks.numbers import SCALE, floored, read_amount, shown_amount
from sheetworks.signs import capital

ERRORS = ("DIV", "VALUE", "REF", "NAME", "NUM", "NA", "CALC", "SIZE", "LIMIT", "CIRC")
EMPTY = ("empty",)
MOST_SIGNS = 64
MOST_MEMBERS = 64
MOST_ROWS = 20
MOST_COLUMNS = 20
EMPTY_BESIDE = {"number": ("number", 0), "text": ("text", ""), "truth": ("truth", False)}


def fits(h, w):
    """Whether an array may be so high and wide."""
    return h <= MOST_ROWS and w <= MOST_COLUMNS and h * w <= MOST_MEMBERS


def array(h, w, members):
    """The value of h rows and w columns with these members, row by row."""
    if not fits(h, w):
        return ("error", "SIZE")
    if h * w == 1:
        return members[0]
    return ("array", h, w, tuple(members))


def height(v):
    """How many rows a value has."""
    return v[1] if v[0] == "array" else 1


def width(v):
    """How many columns a value has."""
    return v[2] if v[0] == "array" else 1


def member(v, i, j):
    """The member of row i and column j; of a scalar the scalar itself."""
    if v[0] != "array":
        return v
    return v[3][i * v[2] + j]


def text_of(s):
    """The text of a string, or the error of one that is too long."""
    if len(s) > MOST_SIGNS:
        return ("error", "VALUE")
    return ("text", s)


def number_of(m):
    """The number of an amount, or the error of an error word."""
    if isinstance(m, str):
        return ("error", m)
    return ("number", m)


def as_number(v):
    """A scalar as a number; an error stays."""
    kind = v[0]
    if kind == "empty":
        return ("number", 0)
    if kind == "truth":
        return ("number", SCALE if v[1] else 0)
    if kind == "text":
        m = read_amount(v[1])
        return number_of("VALUE" if m is None else m)
    return v


def as_text(v):
    """A scalar as a text; an error stays."""
    if v[0] == "error":
        return v
    return ("text", shown(v))


def as_truth(v):
    """A scalar as a truth value; an error stays."""
    kind = v[0]
    if kind == "empty":
        return ("truth", False)
    if kind == "number":
        return ("truth", v[1] != 0)
    if kind == "text":
        word = capital(v[1])
        if word in ("TRUE", "FALSE"):
            return ("truth", word == "TRUE")
        return ("error", "VALUE")
    return v


def as_whole(v):
    """A scalar as a whole number, rounded down; an error stays."""
    number = as_number(v)
    if number[0] == "error":
        return number
    return number_of(floored(number[1]))


def shown(v):
    """The string that a cell shows of a scalar."""
    kind = v[0]
    if kind == "empty":
        return ""
    if kind == "number":
        return shown_amount(v[1])
    if kind == "truth":
        return "TRUE" if v[1] else "FALSE"
    if kind == "text":
        return v[1]
    return "#" + v[1] + "!"


def compared(a, b):
    """-1, 0 or 1: a is less than b, alike, greater; neither is an error."""
    # Behind the first two items a key tells texts of one capital form apart.
    first = order_key(taken_beside(a, b))[:2]
    second = order_key(taken_beside(b, a))[:2]
    if first < second:
        return -1
    if first > second:
        return 1
    return 0


def taken_beside(v, other):
    """What v is taken as beside other: if just v is empty, of other's kind."""
    if v[0] == "empty":
        return EMPTY_BESIDE.get(other[0], v)
    return v


def order_key(v):
    """A key that sorts scalars: numbers, texts, truth values, errors, empty."""
    kind = v[0]
    if kind == "number":
        return (0, v[1])
    if kind == "text":
        return (1, capital(v[1]), v[1])
    if kind == "truth":
        return (2, 1 if v[1] else 0)
    if kind == "error":
        return (3, ERRORS.index(v[1]))
    return (4,)
