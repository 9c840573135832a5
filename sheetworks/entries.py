"""What texts make in cells, and how that is told back."""

from sheetworks.errors import BadText, Fault
from sheetworks.numbers import read_amount
from sheetworks.parsing import read_formula
from sheetworks.places import column_span, row_span
from sheetworks.signs import capital
from sheetworks.trees import areas
from sheetworks.values import EMPTY, ERRORS, MOST_SIGNS, shown

MOST_SIGNS_PUT = 96
# A percent sign can not stand in a string of this package, so it is told by its number.
PERCENT = 37


def is_printable(sign):
    """Whether a sign is one from the blank to ~, but not the percent sign."""
    return " " <= sign <= "~" and ord(sign) != PERCENT


def check_signs(text, most):
    """Raises BadText at the first sign that is not printable, or that is one too many."""
    for at, sign in enumerate(text[:most]):
        if not is_printable(sign):
            raise BadText(at)
    if len(text) > most:
        raise BadText(most)


def is_formula(text):
    """Whether a text is put as a formula."""
    return text.startswith("=") and len(text) > 1


def entry_of(text, sheets):
    """What a printable text makes: (scalar, None), or (None, tree) for a formula."""
    if is_formula(text):
        return (None, read_formula(text, sheets))
    return (constant_of(text), None)


def constant_of(text):
    """The scalar that a printable text makes that is no formula."""
    if text == "":
        return EMPTY
    if text[0] == "'":
        if len(text) > MOST_SIGNS + 1:
            raise BadText(MOST_SIGNS + 1)
        return ("text", text[1:])
    m = read_amount(text)
    if m is not None:
        return ("number", m)
    word = capital(text)
    if word in ("TRUE", "FALSE"):
        return ("truth", word == "TRUE")
    error = word[1:-1]
    if word == f"#{error}!" and error in ERRORS and error != "CIRC":
        return ("error", error)
    if len(text) > MOST_SIGNS:
        raise BadText(MOST_SIGNS)
    return ("text", text)


def constant_text(v):
    """The text of a constant, such that putting it makes it again."""
    if v[0] != "text":
        return shown(v)
    s = v[1]
    # Such a text would make something else, or nothing at all.
    if is_formula(s) or constant_of(s) != v:
        return "'" + s
    return s


def formula_of(text, sheets):
    """The tree of a printable text, which has to be a formula."""
    if not is_formula(text):
        raise BadText(0)
    return read_formula(text, sheets)


def name_tree_of(text, sheets):
    """The tree of a name's formula: its references have sheets, its numbers are fixed."""
    tree = formula_of(text, sheets)
    for node in areas(tree):
        if node[1] is None or not is_fixed(row_span(node)) or not is_fixed(column_span(node)):
            raise Fault(0)
    return tree


def is_fixed(span):
    """Whether both numbers of a span are fixed, if it is one."""
    return span is None or (span[2] and span[3])
