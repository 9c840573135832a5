"""Lifted functions: worked out member by member over all their arguments."""

from sheetworks.arrays import first_error, many_together, together
from sheetworks.numbers import SCALE
from sheetworks.values import as_number, as_text, as_truth, as_whole


def converted(kind, v):
    """A scalar as an argument of this kind."""
    if kind == "number":
        return as_number(v)
    if kind == "whole":
        return as_whole(v)
    if kind == "text":
        return as_text(v)
    return as_truth(v)


def worth(kind, v):
    """What a converted scalar stands for: an amount, integer, string or truth value."""
    return v[1] // SCALE if kind == "whole" else v[1]


def worked_out(deed, kinds, members):
    """What deed makes of one member of each argument; the first error is passed on."""
    error = first_error(members)
    if error is not None:
        return error
    told = []
    for kind, v in zip(kinds, members):
        scalar = converted(kind, v)
        if scalar[0] == "error":
            return scalar
        told.append(worth(kind, scalar))
    return deed(*told)


def lifted(call, trees, deed, kinds):
    """The result of a lifted function; deed gets what the kinds of its arguments tell."""
    values = [call.value(tree) for tree in trees]
    call.working.step(many_together(values))
    return together(lambda members: worked_out(deed, kinds, members), values)


def lifted_over_any(call, trees, deed):
    """The result of a lifted function of one argument to which errors are no others."""
    values = [call.value(tree) for tree in trees]
    call.working.step(many_together(values))
    return together(lambda members: deed(members[0]), values)
