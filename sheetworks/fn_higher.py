"""Library functions that call functions."""

from sheetworks.arrays import NOT_THERE, many_together, repeated, size_of
from sheetworks.fn_arrays import columns_of, rows_of
from sheetworks.numbers import SCALE
from sheetworks.values import array, fits, height, number_of, width

WRONG = ("error", "VALUE")
NO_SCALAR = ("error", "CALC")
TOO_GREAT = ("error", "SIZE")


def scalar_of(call, function, arguments):
    """The scalar that a function gives; an array is an error."""
    v = call.applied_value(function, arguments)
    return NO_SCALAR if v[0] == "array" else v


def members_of(v):
    """The members of a value, row by row."""
    return v[3] if v[0] == "array" else (v,)


def map_over(call, trees):
    """MAP"""
    values = [call.value(tree) for tree in trees[:-1]]
    function = call.function(trees[-1])
    h, w = size_of(values)
    many = many_together(values)
    if many == 0:
        return TOO_GREAT
    found = []
    for i in range(h):
        for j in range(w):
            members = [repeated(v, i, j) for v in values]
            found.append(NOT_THERE if None in members else scalar_of(call, function, members))
    call.working.step(many)
    return array(h, w, found)


def reduce_to(call, trees):
    """REDUCE"""
    x = call.value(trees[0])
    a = call.value(trees[1])
    function = call.function(trees[2])
    for v in members_of(a):
        x = call.applied_value(function, [x, v])
    return x


def scan(call, trees):
    """SCAN"""
    x = call.sound_scalar(trees[0])
    a = call.value(trees[1])
    function = call.function(trees[2])
    found = []
    for v in members_of(a):
        x = scalar_of(call, function, [x, v])
        found.append(x)
    return array(height(a), width(a), found)


def make_array(call, trees):
    """MAKEARRAY"""
    h = call.whole(trees[0])
    w = call.whole(trees[1])
    function = call.function(trees[2])
    if h < 1 or w < 1:
        return WRONG
    if not fits(h, w):
        return TOO_GREAT
    found = []
    for i in range(1, h + 1):
        for j in range(1, w + 1):
            numbers = [number_of(i * SCALE), number_of(j * SCALE)]
            found.append(scalar_of(call, function, numbers))
    return array(h, w, found)


def by_row(call, trees):
    """BYROW"""
    a = call.value(trees[0])
    function = call.function(trees[1])
    rows = rows_of(a)
    found = [scalar_of(call, function, [array(1, len(row), row)]) for row in rows]
    return array(len(found), 1, found)


def by_column(call, trees):
    """BYCOL"""
    a = call.value(trees[0])
    function = call.function(trees[1])
    columns = columns_of(a)
    found = [scalar_of(call, function, [array(len(line), 1, line)]) for line in columns]
    return array(1, len(found), found)


HIGHER = {
    "MAP": map_over, "REDUCE": reduce_to, "SCAN": scan, "MAKEARRAY": make_array, "BYROW": by_row,
    "BYCOL": by_column,
}
