"""Library functions that look something up."""

from sheetworks.came import height_of, indexed, reference_to, scalar_at, width_of
from sheetworks.moves import area_of
from sheetworks.names import is_name
from sheetworks.numbers import SCALE
from sheetworks.places import cell_node, columns_node, range_node, rows_node
from sheetworks.signs import capital
from sheetworks.tokens import cell_end, columns_end, rows_end
from sheetworks.values import EMPTY, compared, number_of

WRONG = ("error", "VALUE")
LOST = ("error", "REF")
NOT_THERE = ("error", "NA")


def index(call, trees):
    """INDEX"""
    came = call.what_came(trees[0])
    i = call.whole(trees[1])
    if len(trees) == 3:
        return indexed(came, i, call.whole(trees[2]))
    # The one number counts along a row.
    if height_of(came) == 1:
        return indexed(came, 0, i)
    return indexed(came, i, 0)


def sought(call, tree):
    """A scalar that is looked for; an empty one is 0."""
    x = call.sound_scalar(tree)
    return ("number", 0) if x == EMPTY else x


def places_of(came):
    """The rows and columns of the scalars of what came, in their sequence."""
    return [(i, j) for i in range(height_of(came)) for j in range(width_of(came))]


def found_at(call, x, came, places, way):
    """The number, from 1 on, of the place that is found, or 0.

    For way 0 the first one alike; otherwise the last one ahead of the first
    that is greater (way above 0) or less than x. Nothing behind is read.
    """
    last = 0
    for at, (i, j) in enumerate(places):
        v = scalar_at(call, came, i, j)
        if v[0] == x[0]:
            order = compared(v, x)
            if way == 0 and order == 0:
                return at + 1
            if order * way > 0:
                return last
            last = at + 1
    return 0 if way == 0 else last


def match(call, trees):
    """MATCH"""
    x = sought(call, trees[0])
    came = call.what_came(trees[1])
    way = call.whole_or(trees, 2, 1)
    if height_of(came) > 1 and width_of(came) > 1:
        return NOT_THERE
    at = found_at(call, x, came, places_of(came), way)
    return number_of(at * SCALE) if at > 0 else NOT_THERE


def xlookup(call, trees):
    """XLOOKUP"""
    x = sought(call, trees[0])
    keys = call.what_came(trees[1])
    came = call.what_came(trees[2])
    is_column = width_of(keys) == 1
    if not is_column and height_of(keys) != 1:
        return WRONG
    if is_column and height_of(came) != height_of(keys):
        return WRONG
    if not is_column and width_of(came) != width_of(keys):
        return WRONG
    at = found_at(call, x, keys, places_of(keys), 0)
    if at == 0:
        return call.came(trees[3]) if len(trees) == 4 else NOT_THERE
    return indexed(came, at, 0) if is_column else indexed(came, 0, at)


def vlookup(call, trees):
    """VLOOKUP"""
    x = sought(call, trees[0])
    came = call.what_came(trees[1])
    k = call.whole(trees[2])
    is_near = call.truth(trees[3]) if len(trees) == 4 else True
    if k < 1:
        return WRONG
    if k > width_of(came):
        return LOST
    places = [(i, 0) for i in range(height_of(came))]
    at = found_at(call, x, came, places, 1 if is_near else 0)
    return indexed(came, at, k) if at > 0 else NOT_THERE


def offset(call, trees):
    """OFFSET"""
    came = call.reference(trees[0])
    down = call.whole(trees[1])
    right = call.whole(trees[2])
    h = call.whole_or(trees, 3, height_of(came))
    w = call.whole_or(trees, 4, width_of(came))
    return reference_to(came[1], came[2] + down, came[3] + right, h, w)


def indirect(call, trees):
    """INDIRECT"""
    text = capital(call.text(trees[0]).strip(" "))
    name, mark, what = text.rpartition("!")
    node = node_told(what)
    if node is None or (mark != "" and not is_name(name)):
        return LOST
    key = call.own if mark == "" else call.working.sheet(name)
    if key is None:
        return LOST
    return ("area", *area_of(node, key))


def node_told(what):
    """The node that means what a text tells, in capital form, or None."""
    many = len(what)
    if cell_end(what, 0) == many:
        return cell_node(None, what)
    if rows_end(what, 0) == many:
        return rows_node(None, what)
    if columns_end(what, 0) == many:
        return columns_node(None, what)
    first, _, last = what.partition(":")
    if cell_end(first, 0) == len(first) and cell_end(last, 0) == len(last):
        return range_node(None, first, last)
    return None


LOOKUPS = {
    "INDEX": index, "MATCH": match, "XLOOKUP": xlookup, "VLOOKUP": vlookup, "OFFSET": offset,
    "INDIRECT": indirect,
}
