"""Library functions that choose what is evaluated."""

from sheetworks.arrays import repeated
from sheetworks.values import array, compared, height, width

NOT_THERE = ("error", "NA")
WRONG = ("error", "VALUE")


def if_else(call, trees):
    """IF"""
    if call.truth(trees[0]):
        return call.came(trees[1])
    if len(trees) == 3:
        return call.came(trees[2])
    return ("truth", False)


def first_true(call, trees):
    """IFS"""
    if len(trees) - len(trees) // 2 * 2 != 0:
        return WRONG
    for test, tree in zip(trees[::2], trees[1::2]):
        if call.truth(test):
            return call.came(tree)
    return NOT_THERE


def switch(call, trees):
    """SWITCH"""
    x = call.sound_scalar(trees[0])
    rest = trees[1:]
    for one, tree in zip(rest[::2], rest[1::2]):
        y = call.sound_scalar(one)
        if compared(x, y) == 0:
            return call.came(tree)
    # A last one without a partner stands for all that is not alike.
    if len(rest) // 2 * 2 != len(rest):
        return call.came(rest[-1])
    return NOT_THERE


def choose(call, trees):
    """CHOOSE"""
    k = call.whole(trees[0])
    if k < 1 or k >= len(trees):
        return WRONG
    return call.came(trees[k])


def are_all(call, trees):
    """AND"""
    for tree in trees:
        if not call.truth(tree):
            return ("truth", False)
    return ("truth", True)


def is_any(call, trees):
    """OR"""
    for tree in trees:
        if call.truth(tree):
            return ("truth", True)
    return ("truth", False)


def are_odd(call, trees):
    """XOR"""
    found = False
    for tree in trees:
        found = found != call.truth(tree)
    return ("truth", found)


def opposite(b):
    """NOT"""
    return ("truth", not b)


def is_error(v):
    """What IFERROR replaces."""
    return v[0] == "error"


def is_not_there(v):
    """What IFNA replaces."""
    return v == NOT_THERE


def replacing(call, trees, is_meant):
    """The first argument, with members of the second one in place of those meant."""
    x = call.value(trees[0])
    members = x[3] if x[0] == "array" else (x,)
    result = x
    if [v for v in members if is_meant(v)]:
        result = replaced(x, call.value(trees[1]), is_meant)
    call.working.step(height(result) * width(result))
    return result


def replaced(x, y, is_meant):
    """The value x with y in place of the members that are meant."""
    if x[0] != "array":
        return y
    h, w = height(x), width(x)
    found = []
    for i in range(h):
        for j in range(w):
            v = repeated(x, i, j)
            if is_meant(v):
                v = repeated(y, i, j) or NOT_THERE
            found.append(v)
    return array(h, w, found)


def if_error(call, trees):
    """IFERROR"""
    return replacing(call, trees, is_error)


def if_not_there(call, trees):
    """IFNA"""
    return replacing(call, trees, is_not_there)


CHOICES = {
    "IF": if_else, "IFS": first_true, "SWITCH": switch, "CHOOSE": choose, "AND": are_all,
    "OR": is_any, "XOR": are_odd, "IFERROR": if_error, "IFNA": if_not_there,
}
CHOICE_DEEDS = {"NOT": opposite}
CHOICE_KINDS = {"NOT": ("truth",)}
