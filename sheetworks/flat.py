"""Flat walks: each scalar of the arguments, one by one, each when its turn comes."""

from sheetworks.applying import settled
from sheetworks.values import as_number, number_of, shown


def walk(call, trees, deed):
    """Hands deed each scalar, and whether it is given plainly.

    deed ends the walk by an Early; then nothing further is evaluated or read.
    """
    for tree in trees:
        came = call.what_came(tree)
        if came[0] == "area":
            walk_cells(call, came, deed)
        elif came[0] == "array":
            for v in came[3]:
                deed(v, False)
        else:
            deed(came, True)


def walk_cells(call, reference, deed):
    """Hands deed each cell of a reference, row by row; none is given plainly."""
    _, key, top, left, bottom, right = reference
    for row in range(top, bottom + 1):
        for column in range(left, right + 1):
            deed(call.working.cell(key, row, column), False)


def number_told(v, is_plain):
    """The amount that a scalar counts as, or None; an error ends the walk."""
    settled(v)
    if is_plain:
        return settled(as_number(v))[1]
    return v[1] if v[0] == "number" else None


def numbers_of(call, trees):
    """The amounts of a flat walk."""
    found = []

    def deed(v, is_plain):
        m = number_told(v, is_plain)
        if m is not None:
            found.append(m)
    walk(call, trees, deed)
    return found


def folded(call, trees, work):
    """What work makes of the amounts of a flat walk, told anew behind each of them.

    The first one stands for itself; one that does not fit ends the walk.
    """
    totals = []

    def deed(v, is_plain):
        m = number_told(v, is_plain)
        if m is not None:
            total = work(totals[-1], m) if totals else m
            totals.append(settled(number_of(total))[1])
    walk(call, trees, deed)
    return totals


def shown_texts(call, trees):
    """The shown texts of a flat walk."""
    found = []

    def deed(v, _):
        found.append(shown(settled(v)))
    walk(call, trees, deed)
    return found
