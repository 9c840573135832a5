"""The evaluation of a formula's tree."""

from sheetworks.applying import WRONG, Call, Early
from sheetworks.arrays import broadcast, many_together
from sheetworks.comparing import is_so
from sheetworks.fn_arrays import ARRAYS
from sheetworks.fn_choices import CHOICE_DEEDS, CHOICE_KINDS, CHOICES
from sheetworks.fn_higher import HIGHER
from sheetworks.fn_kinds import KIND_CALLS, KIND_DEEDS
from sheetworks.fn_lookup import LOOKUPS
from sheetworks.fn_numbers import NUMBER_DEEDS, NUMBER_KINDS
from sheetworks.fn_texts import TEXT_CALLS, TEXT_DEEDS, TEXT_KINDS
from sheetworks.fn_totals import TOTALS
from sheetworks.lifting import lifted, lifted_over_any
from sheetworks.moves import area_of
from sheetworks.numbers import added, divided, multiplied, negated, raised, subtracted
from sheetworks.values import (EMPTY, array, as_number, compared, height, number_of, shown, text_of,
                               width)
from sheetworks.working import Passed, Unknown, Working

LIMIT = ("error", "LIMIT")
AMOUNTS = {"+": added, "-": subtracted, "*": multiplied, "/": divided, "^": raised}
# These count the steps of their members themselves.
COUNTING = ("IFERROR", "IFNA", "MAP")


class Evaluation:
    """One evaluation of a formula on the sheet with key own."""

    def __init__(self, own, world):
        self.own = own
        self.working = Working(world)

    def came(self, tree, bound, level):
        """What comes of a tree with these words bound, at this level."""
        self.working.enter(level)
        deed = NODES[tree[0]]
        return deed(Call(self, bound, level + 1), tree)


def evaluated(tree, own, world):
    """(result, reads) of a formula's tree on the sheet with key own."""
    evaluation = Evaluation(own, world)
    working = evaluation.working
    try:
        result = result_of(working.taken(evaluation.came(tree, {}, 1)))
    except Unknown:
        result = None
    except Passed:
        result = LIMIT
    return (result, working.reads())


def result_of(v):
    """The value that a formula shows; empty becomes 0."""
    if v[0] != "array":
        return filled(v)
    return array(v[1], v[2], [filled(scalar) for scalar in v[3]])


def filled(v):
    """A scalar, 0 in place of an empty one."""
    return ("number", 0) if v == EMPTY else v


def constant_came(_, tree):
    """A constant or a missing argument."""
    return tree


def array_came(_, tree):
    """An array of constants."""
    rows = tree[1]
    return array(len(rows), len(rows[0]), [v for row in rows for v in row])


def area_came(call, tree):
    """A reference; nothing is read."""
    return ("area", *area_of(tree, call.own))


def name_came(call, tree):
    """What is bound to a word, otherwise what comes of the name's tree."""
    word = tree[1]
    if word in call.bound:
        return call.bound[word]
    named = call.working.name(word)
    if named is None:
        return ("error", "NAME")
    return call.evaluation.came(named, {}, call.level)


def sign_came(call, tree):
    """Numbers, with their sign changed or not."""
    v = call.value(tree[2])
    h, w = height(v), width(v)
    call.working.step(h * w)
    members = v[3] if v[0] == "array" else (v,)
    return array(h, w, [signed(tree[1], scalar) for scalar in members])


def signed(sign, v):
    """A scalar behind a sign."""
    number = as_number(v)
    if sign == "-" and number[0] == "number":
        return number_of(negated(number[1]))
    return number


def binary_came(call, tree):
    """An operator over two values, member by member."""
    left = call.value(tree[2])
    right = call.value(tree[3])
    call.working.step(many_together([left, right]))
    return broadcast(lambda x, y: operated(tree[1], x, y), left, right)


def operated(operator, x, y):
    """What an operator makes of two scalars that are no errors."""
    if operator == "&":
        return text_of(shown(x) + shown(y))
    if operator not in AMOUNTS:
        return ("truth", is_so(operator, compared(x, y)))
    m = as_number(x)
    n = as_number(y)
    if m[0] == "error":
        return m
    if n[0] == "error":
        return n
    work = AMOUNTS[operator]
    return number_of(work(m[1], n[1]))


def let_came(call, tree):
    """The body, with each word bound to what came of its tree."""
    _, words, trees, body = tree
    evaluation = call.evaluation
    bound = call.bound
    for word, part in zip(words, trees):
        came = evaluation.came(part, bound, call.level)
        # A function that came may have brought the words as they were.
        bound = dict(bound)
        bound[word] = came
    return evaluation.came(body, bound, call.level)


def lambda_came(call, tree):
    """A function, which brings the words that are bound here."""
    return ("function", tree[1], tree[2], call.bound)


def apply_came(call, tree):
    """What comes of what is called, with all arguments evaluated."""
    function = call.came(tree[1])
    arguments = [call.came(argument) for argument in tree[2]]
    if function[0] == "function":
        return call.applied(function, arguments)
    return function if function[0] == "error" else WRONG


def call_came(call, tree):
    """What comes of a library function."""
    _, word, trees = tree
    try:
        return told_by(call, word, trees)
    except Early as early:
        return early.result


def told_by(call, word, trees):
    """The result of a library function; the members of an array count as steps."""
    if word in NUMBER_DEEDS:
        return lifted(call, trees, NUMBER_DEEDS[word], NUMBER_KINDS[word])
    if word in TEXT_DEEDS:
        return lifted(call, trees, TEXT_DEEDS[word], TEXT_KINDS[word])
    if word in CHOICE_DEEDS:
        return lifted(call, trees, CHOICE_DEEDS[word], CHOICE_KINDS[word])
    if word in KIND_DEEDS:
        return lifted_over_any(call, trees, KIND_DEEDS[word])
    deed = deed_of(word)
    result = deed(call, trees)
    if result[0] == "array" and word not in COUNTING:
        call.working.step(result[1] * result[2])
    return result


def deed_of(word):
    """The working of a library function that is not lifted."""
    if word in TOTALS:
        return TOTALS[word]
    if word in CHOICES:
        return CHOICES[word]
    if word in KIND_CALLS:
        return KIND_CALLS[word]
    if word in TEXT_CALLS:
        return TEXT_CALLS[word]
    if word in LOOKUPS:
        return LOOKUPS[word]
    if word in ARRAYS:
        return ARRAYS[word]
    return HIGHER[word]


NODES = {
    "number": constant_came, "text": constant_came, "truth": constant_came,
    "error": constant_came, "empty": constant_came, "array": array_came, "cell": area_came,
    "range": area_came, "rows": area_came, "columns": area_came, "name": name_came,
    "sign": sign_came, "binary": binary_came, "call": call_came, "let": let_came,
    "lambda": lambda_came, "apply": apply_came,
}
