"""What comparisons tell, and which scalars meet a criterion."""

from sheetworks.numbers import read_amount
from sheetworks.signs import capital
from sheetworks.values import compared

# Those of two signs stand first, since the longest one that fits is taken.
COMPARISONS = ("<=", ">=", "<>", "=", "<", ">")


def is_so(operator, order):
    """Whether a comparison holds of two scalars whose order is -1, 0 or 1."""
    if operator == "=":
        return order == 0
    if operator == "<>":
        return order != 0
    if operator == "<":
        return order < 0
    if operator == "<=":
        return order <= 0
    if operator == ">":
        return order > 0
    return order >= 0


def criterion(c):
    """The comparison and the bound that a scalar tells."""
    if c[0] != "text":
        return ("=", c)
    for operator in COMPARISONS:
        if c[1].startswith(operator):
            return (operator, bound_told(c[1][len(operator):]))
    return ("=", bound_told(c[1]))


def bound_told(text):
    """The scalar that the text of a bound stands for."""
    m = read_amount(text)
    if m is not None:
        return ("number", m)
    word = capital(text)
    if word in ("TRUE", "FALSE"):
        return ("truth", word == "TRUE")
    return ("text", text)


def meets(v, c):
    """Whether a cell's value meets the criterion c."""
    if v[0] == "error":
        return v == c
    operator, bound = criterion(c)
    if operator == "<>":
        return not is_alike(v, bound)
    if operator == "=":
        return is_alike(v, bound)
    return v[0] == bound[0] and is_so(operator, compared(v, bound))


def is_alike(v, bound):
    """Whether a scalar is of the bound's kind and alike."""
    if bound == ("text", "") and v[0] == "empty":
        return True
    return v[0] == bound[0] and compared(v, bound) == 0
