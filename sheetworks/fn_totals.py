"""Library functions that make one number of many."""

from sheetworks.applying import Early, settled
from sheetworks.comparing import meets
from sheetworks.flat import folded, numbers_of, walk, walk_cells
from sheetworks.numbers import SCALE, added, divided, multiplied
from sheetworks.places import COLUMNS, ROWS
from sheetworks.values import as_number, height, number_of, width

WRONG = ("error", "VALUE")
LOST = ("error", "REF")


def total(call, trees):
    """SUM"""
    totals = folded(call, trees, added)
    return number_of(totals[-1] if totals else 0)


def product_of(call, trees):
    """PRODUCT"""
    totals = folded(call, trees, multiplied)
    return number_of(totals[-1] if totals else 0)


def average(call, trees):
    """AVERAGE"""
    totals = folded(call, trees, added)
    if not totals:
        return number_of("DIV")
    return number_of(divided(totals[-1], len(totals) * SCALE))


def least(call, trees):
    """MIN"""
    return number_of(min(numbers_of(call, trees), default=0))


def greatest(call, trees):
    """MAX"""
    return number_of(max(numbers_of(call, trees), default=0))


def median(call, trees):
    """MEDIAN"""
    found = sorted(numbers_of(call, trees))
    if not found:
        return number_of("NUM")
    middle = len(found) // 2
    if len(found) % 2 == 1:
        return number_of(found[middle])
    both = added(found[middle - 1], found[middle])
    return number_of("NUM" if both == "NUM" else divided(both, 2 * SCALE))


def count(call, trees):
    """COUNT"""
    found = []

    def deed(v, is_plain):
        kind = as_number(v)[0] if is_plain else v[0]
        if kind == "number":
            found.append(v)
    walk(call, trees, deed)
    return number_of(len(found) * SCALE)


def count_all(call, trees):
    """COUNTA"""
    found = []

    def deed(v, is_plain):
        if is_plain or v[0] != "empty":
            found.append(v)
    walk(call, trees, deed)
    return number_of(len(found) * SCALE)


def count_blank(call, trees):
    """COUNTBLANK"""
    found = []

    def deed(v, _):
        if v[0] == "empty" or v == ("text", ""):
            found.append(v)
    walk_cells(call, call.reference(trees[0]), deed)
    return number_of(len(found) * SCALE)


def large(call, trees):
    """LARGE"""
    found = numbers_of(call, trees[:1])
    return placed(sorted(found, reverse=True), call.whole(trees[1]))


def lesser(call, trees):
    """SMALL"""
    found = numbers_of(call, trees[:1])
    return placed(sorted(found), call.whole(trees[1]))


def placed(found, k):
    """The k-th of some amounts."""
    if k < 1 or k > len(found):
        return number_of("NUM")
    return number_of(found[k - 1])


def rank_among(call, trees):
    """RANK"""
    x = call.number(trees[0])
    found = numbers_of(call, trees[1:])
    if x not in found:
        return number_of("NA")
    return number_of((1 + len([m for m in found if m > x])) * SCALE)


def sum_of_products(call, trees):
    """SUMPRODUCT"""
    values = [call.sound_value(tree) for tree in trees]
    h, w = height(values[0]), width(values[0])
    for v in values:
        if height(v) != h or width(v) != w:
            return WRONG
    lists = [v[3] if v[0] == "array" else (v,) for v in values]
    found = 0
    for at in range(h * w):
        amount = product_at([members[at] for members in lists])
        found = settled(number_of(added(found, amount)))[1]
    return number_of(found)


def product_at(members):
    """The product of some scalars as an amount; errors are met ahead of it."""
    for v in members:
        settled(v)
    amounts = [v[1] if v[0] == "number" else 0 for v in members]
    found = amounts[0]
    for m in amounts[1:]:
        found = settled(number_of(multiplied(found, m)))[1]
    return found


def criterion_taken(call, tree):
    """A criterion: a scalar, perhaps an error; an array is the result at once."""
    c = call.value(tree)
    if c[0] == "array":
        raise Early(WRONG)
    return c


def count_if(call, trees):
    """COUNTIF"""
    reference = call.reference(trees[0])
    c = criterion_taken(call, trees[1])
    found = []

    def deed(v, _):
        if meets(v, c):
            found.append(v)
    walk_cells(call, reference, deed)
    return number_of(len(found) * SCALE)


def sum_if(call, trees):
    """SUMIF"""
    _, key, top, left, bottom, right = call.reference(trees[0])
    c = criterion_taken(call, trees[1])
    beside = call.reference(trees[2]) if len(trees) == 3 else None
    if beside is not None and is_beyond(beside, bottom - top, right - left):
        return LOST
    found = 0
    for row in range(top, bottom + 1):
        for column in range(left, right + 1):
            v = call.working.cell(key, row, column)
            if meets(v, c):
                if beside is not None:
                    v = call.working.cell(beside[1], beside[2] + row - top,
                                          beside[3] + column - left)
                found = added_to(found, v)
    return number_of(found)


def is_beyond(reference, down, right):
    """Whether so far from a reference's first cell there is no cell any more."""
    return reference[2] + down >= ROWS or reference[3] + right >= COLUMNS


def added_to(found, v):
    """The sum with a scalar added, if that is a number; an error is the result at once."""
    settled(v)
    if v[0] != "number":
        return found
    return settled(number_of(added(found, v[1])))[1]


TOTALS = {
    "SUM": total, "PRODUCT": product_of, "MIN": least, "MAX": greatest, "AVERAGE": average,
    "MEDIAN": median, "COUNT": count, "COUNTA": count_all, "COUNTBLANK": count_blank,
    "LARGE": large, "SMALL": lesser, "RANK": rank_among, "SUMPRODUCT": sum_of_products,
    "COUNTIF": count_if, "SUMIF": sum_if,
}
