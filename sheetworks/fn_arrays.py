"""Library functions that make arrays of arrays, most of them by whole rows."""

from sheetworks.applying import settled
from sheetworks.numbers import SCALE, added, multiplied
from sheetworks.values import (array, as_truth, fits, height, member, number_of, order_key,
                               width)

WRONG = ("error", "VALUE")
NOT_THERE = ("error", "NA")
WITHOUT_MEMBERS = ("error", "CALC")
TOO_GREAT = ("error", "SIZE")
MOST_OF_UNIT = 8


def rows_of(v):
    """The rows of a value, each a tuple."""
    w = width(v)
    return [tuple([member(v, i, j) for j in range(w)]) for i in range(height(v))]


def columns_of(v):
    """The columns of a value, each a tuple."""
    h = height(v)
    return [tuple([member(v, i, j) for i in range(h)]) for j in range(width(v))]


def array_of(rows):
    """The value of some rows, all of one length."""
    if len(rows) == 0 or len(rows[0]) == 0:
        return WITHOUT_MEMBERS
    members = []
    for row in rows:
        members.extend(row)
    return array(len(rows), len(rows[0]), members)


def array_of_columns(columns):
    """The value of some columns, one at least, all of one length."""
    many = len(columns[0])
    return array_of([tuple([column[i] for column in columns]) for i in range(many)])


def sequence(call, trees):
    """SEQUENCE"""
    h = call.whole(trees[0])
    w = call.whole_or(trees, 1, 1)
    first = call.number(trees[2]) if len(trees) > 2 else SCALE
    step = call.number(trees[3]) if len(trees) > 3 else SCALE
    if h < 1 or w < 1:
        return WRONG
    if not fits(h, w):
        return TOO_GREAT
    amounts = [first]
    while len(amounts) < h * w:
        last = amounts[-1]
        amounts.append("NUM" if last == "NUM" else added(last, step))
    return array(h, w, [number_of(m) for m in amounts])


def transpose(call, trees):
    """TRANSPOSE"""
    return array_of(columns_of(call.sound_value(trees[0])))


def sorted_by(rows, keys, way):
    """The rows in the order of as many keys, rising or falling; alike ones stay in sequence."""
    places = list(range(len(rows)))
    if way > 0:
        places = sorted(places, key=lambda at: order_key(keys[at]))
    else:
        places = sorted(places, key=lambda at: order_key(keys[at]), reverse=True)
    return array_of([rows[at] for at in places])


def sort_rows(call, trees):
    """SORT"""
    a = call.sound_value(trees[0])
    k = call.whole_or(trees, 1, 1)
    way = call.whole_or(trees, 2, 1)
    if k < 1 or k > width(a) or way not in (1, -1):
        return WRONG
    rows = rows_of(a)
    return sorted_by(rows, [row[k - 1] for row in rows], way)


def sort_by(call, trees):
    """SORTBY"""
    a = call.sound_value(trees[0])
    b = call.sound_value(trees[1])
    way = call.whole_or(trees, 2, 1)
    if width(b) != 1 or height(b) != height(a) or way not in (1, -1):
        return WRONG
    return sorted_by(rows_of(a), [row[0] for row in rows_of(b)], way)


def unique(call, trees):
    """UNIQUE"""
    kept = []
    for row in rows_of(call.sound_value(trees[0])):
        if row not in kept:
            kept.append(row)
    return array_of(kept)


def filtered(call, trees):
    """FILTER"""
    a = call.sound_value(trees[0])
    b = call.sound_value(trees[1])
    is_column = width(b) == 1 and height(b) == height(a)
    if not is_column and (height(b) != 1 or width(b) != width(a)):
        return WRONG
    tests = rows_of(b) if is_column else columns_of(b)
    is_kept = [settled(as_truth(test[0]))[1] for test in tests]
    lines = rows_of(a) if is_column else columns_of(a)
    kept = [line for line, is_one in zip(lines, is_kept) if is_one]
    if len(kept) == 0:
        return call.value(trees[2]) if len(trees) == 3 else WITHOUT_MEMBERS
    return array_of(kept) if is_column else array_of_columns(kept)


def first_lines(lines, n):
    """The first n of some lines; for n below 0 the last -n."""
    return lines[:n] if n >= 0 else lines[n:]


def lines_behind(lines, n):
    """Some lines without the first n; for n below 0 without the last -n."""
    return lines[n:] if n >= 0 else lines[:n]


def take(call, trees):
    """TAKE"""
    return both_ways(call, trees, first_lines)


def drop(call, trees):
    """DROP"""
    return both_ways(call, trees, lines_behind)


def both_ways(call, trees, chosen):
    """What is chosen of the rows, and of each of these, if a second number is given."""
    a = call.sound_value(trees[0])
    n = call.whole(trees[1])
    has_columns = call.given(trees, 2)
    m = call.whole(trees[2]) if has_columns else 0
    rows = chosen(rows_of(a), n)
    if has_columns:
        rows = [chosen(row, m) for row in rows]
    return array_of(rows)


def filled(line, many, fill):
    """A line made as long as many."""
    return tuple(line) + (fill,) * (many - len(line))


def stack_below(call, trees):
    """VSTACK"""
    rows = []
    for v in [call.sound_value(tree) for tree in trees]:
        rows.extend(rows_of(v))
    wide = max([len(row) for row in rows])
    return array_of([filled(row, wide, NOT_THERE) for row in rows])


def stack_beside(call, trees):
    """HSTACK"""
    columns = []
    for v in [call.sound_value(tree) for tree in trees]:
        columns.extend(columns_of(v))
    high = max([len(column) for column in columns])
    return array_of_columns([filled(column, high, NOT_THERE) for column in columns])


def chosen_lines(lines, numbers):
    """The lines of these numbers, from 1 on or below 0 from the end; None if one is wrong."""
    found = []
    for k in numbers:
        if k == 0 or k > len(lines) or k < -len(lines):
            return None
        found.append(lines[k - 1] if k > 0 else lines[k])
    return found


def choose_rows(call, trees):
    """CHOOSEROWS"""
    a = call.sound_value(trees[0])
    found = chosen_lines(rows_of(a), [call.whole(tree) for tree in trees[1:]])
    return WRONG if found is None else array_of(found)


def choose_columns(call, trees):
    """CHOOSECOLS"""
    a = call.sound_value(trees[0])
    found = chosen_lines(columns_of(a), [call.whole(tree) for tree in trees[1:]])
    return WRONG if found is None else array_of_columns(found)


def expand(call, trees):
    """EXPAND"""
    a = call.sound_value(trees[0])
    h = call.whole(trees[1])
    w = call.whole(trees[2])
    fill = call.scalar(trees[3]) if len(trees) == 4 else NOT_THERE
    if h < height(a) or w < width(a):
        return WRONG
    if not fits(h, w):
        return TOO_GREAT
    rows = [filled(row, w, fill) for row in rows_of(a)]
    below = [(fill,) * w] * (h - len(rows))
    return array_of(rows + below)


def to_column(call, trees):
    """TOCOL"""
    v = call.sound_value(trees[0])
    rows = rows_of(v)
    return array_of([(scalar,) for row in rows for scalar in row])


def wrap_rows(call, trees):
    """WRAPROWS"""
    a = call.sound_value(trees[0])
    w = call.whole(trees[1])
    if height(a) != 1 and width(a) != 1:
        return WRONG
    if w < 1:
        return number_of("NUM")
    members = [scalar for row in rows_of(a) for scalar in row]
    h = (len(members) + w - 1) // w
    if not fits(h, w):
        return TOO_GREAT
    return array(h, w, filled(members, h * w, NOT_THERE))


def matrix_product(call, trees):
    """MMULT"""
    a = call.sound_value(trees[0])
    b = call.sound_value(trees[1])
    if width(a) != height(b):
        return WRONG
    members = [scalar for v in (a, b) for row in rows_of(v) for scalar in row]
    for scalar in members:
        settled(scalar)
    for scalar in members:
        if scalar[0] != "number":
            return WRONG
    columns = columns_of(b)
    return array_of([tuple([sum_of_products(row, column) for column in columns])
                     for row in rows_of(a)])


def sum_of_products(row, column):
    """The number of the products of two lines of numbers, added from the left."""
    total = 0
    for x, y in zip(row, column):
        amount = multiplied(x[1], y[1])
        if amount == "NUM":
            return number_of("NUM")
        total = added(total, amount)
        if total == "NUM":
            return number_of("NUM")
    return number_of(total)


def unit(call, trees):
    """MUNIT"""
    n = call.whole(trees[0])
    if n < 1 or n > MOST_OF_UNIT:
        return WRONG
    return array_of([tuple([number_of(SCALE if i == j else 0) for j in range(n)])
                     for i in range(n)])


ARRAYS = {
    "SEQUENCE": sequence, "TRANSPOSE": transpose, "SORT": sort_rows, "SORTBY": sort_by,
    "UNIQUE": unique, "FILTER": filtered, "TAKE": take, "DROP": drop, "VSTACK": stack_below,
    "HSTACK": stack_beside, "CHOOSEROWS": choose_rows, "CHOOSECOLS": choose_columns,
    "EXPAND": expand, "TOCOL": to_column, "WRAPROWS": wrap_rows, "MMULT": matrix_product,
    "MUNIT": unit,
}
