"""Values worked with member by member."""

from sheetworks.values import MOST_MEMBERS, array, height, member, width

NOT_THERE = ("error", "NA")


def size_of(values):
    """The greatest height and the greatest width of some values."""
    return max([height(v) for v in values]), max([width(v) for v in values])


def many_together(values):
    """How many members a working of values makes; none where they are too many."""
    h, w = size_of(values)
    return h * w if h * w <= MOST_MEMBERS else 0


def repeated(v, i, j):
    """The member of v at row i and column j, or None where v has none.

    A value of height 1 is repeated downward, one of width 1 to the right.
    """
    h, w = height(v), width(v)
    row = 0 if h == 1 else i
    column = 0 if w == 1 else j
    if row >= h or column >= w:
        return None
    return member(v, row, column)


def together(deed, values):
    """What deed makes of the members of all values, place by place.

    deed gets a list of scalars, errors among them; where one of the values
    has no member, the member is an error.
    """
    h, w = size_of(values)
    if h * w > MOST_MEMBERS:
        return ("error", "SIZE")
    found = []
    for i in range(h):
        for j in range(w):
            members = [repeated(v, i, j) for v in values]
            found.append(NOT_THERE if None in members else deed(members))
    return array(h, w, found)


def first_error(scalars):
    """The first of some scalars that is an error, or None."""
    for v in scalars:
        if v[0] == "error":
            return v
    return None


def broadcast(deed, a, b):
    """What deed makes of each two members of a and b; errors are passed on."""
    return together(lambda pair: first_error(pair) or deed(pair[0], pair[1]), [a, b])
