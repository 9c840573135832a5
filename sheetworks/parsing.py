"""Formulas read as trees.

Each function that gets a reader begins at the token to which the grammar has
come, and ends at the one behind what it read; at a fault it raises Fault.
"""

from sheetworks.errors import Fault
from sheetworks.library import COUNTS
from sheetworks.names import is_name
from sheetworks.numbers import read_amount
from sheetworks.places import cell_node, columns_node, range_node, rows_node
from sheetworks.signs import capital
from sheetworks.tokens import blanks_end, token_at
from sheetworks.trees import depth, nodes
from sheetworks.values import EMPTY, MOST_COLUMNS, MOST_MEMBERS, MOST_ROWS
from sheetworks.writing import RANK_OF_ANY, RANKS

MOST_NODES = 64
MOST_DEEP = 16
MOST_BRACKETS = 16
MOST_SIGNS_AHEAD = 16
MOST_ARGUMENTS = 16
LET_COUNTS = (3, 5, 7, 9, 11, 13, 15)
MOST_OF_LAMBDA = 9


class Reader:
    """A formula's text, and the token to which the grammar has come."""

    def __init__(self, text, sheets):
        self.text = text
        self.upper = capital(text)
        self.sheet_keys = {name: key for key, name in sheets}
        self.brackets = 0
        self.kind = "sign"
        self.at = 0
        self.end = 1
        self.what = "="
        self.go_on()

    def go_on(self):
        """Comes to the next token; behind all of them stands the end."""
        at = blanks_end(self.text, self.end)
        if at == len(self.text):
            self.kind, self.at, self.end, self.what = "end", at, at, ""
        else:
            self.kind, self.at, self.end, self.what = token_at(self.text, self.upper, at)

    def is_at(self, sign):
        """Whether the token is this sign."""
        return self.kind == "sign" and self.what == sign

    def take(self, sign):
        """Goes on behind this sign, which has to stand here."""
        if not self.is_at(sign):
            raise Fault(self.at)
        self.go_on()

    def open_bracket(self):
        """Goes on behind a round bracket that opens."""
        if self.brackets == MOST_BRACKETS:
            raise Fault(self.at)
        self.brackets += 1
        self.go_on()

    def close_bracket(self):
        """Goes on behind the round bracket that closes the last open one."""
        self.take(")")
        self.brackets -= 1


def read_formula(text, sheets):
    """The tree of a formula's text; sheets is a sequence of (key, name)."""
    reader = Reader(text, sheets)
    tree = expression(reader)
    if reader.kind != "end":
        raise Fault(reader.at)
    if nodes(tree) > MOST_NODES or depth(tree) > MOST_DEEP:
        raise Fault(0)
    return tree


def expression(reader):
    """Any operators, the loosest ones included."""
    return operators(reader, RANK_OF_ANY)


def operators(reader, least):
    """Operands with the operators between that have at least this rank."""
    tree = signed(reader)
    while reader.kind == "sign" and RANKS.get(reader.what, 0) >= least:
        operator = reader.what
        reader.go_on()
        # The right operand holds tighter, so that rows group from the left.
        tree = ("binary", operator, tree, operators(reader, RANKS[operator] + 1))
    return tree


def signed(reader):
    """Signs ahead, and what they stand ahead of."""
    signs = []
    while reader.is_at("+") or reader.is_at("-"):
        if len(signs) == MOST_SIGNS_AHEAD:
            raise Fault(reader.at)
        signs.append(reader.what)
        reader.go_on()
    tree = called(reader)
    for sign in signs[::-1]:
        tree = ("sign", sign, tree)
    return tree


def called(reader):
    """Something, and the calls of what comes of it."""
    tree = primary(reader)
    while reader.is_at("("):
        told = arguments(reader)
        reader.close_bracket()
        tree = ("apply", tree, trees_of(told))
    return tree


def primary(reader):
    """What holds together without operators, signs and calls."""
    kind = reader.kind
    if kind in ("number", "text", "error"):
        return constant(reader)
    if kind in ("cell", "rows", "columns"):
        return area(reader, None)
    if kind == "word":
        return word(reader)
    if reader.is_at("{"):
        return array_tree(reader)
    if not reader.is_at("("):
        raise Fault(reader.at)
    reader.open_bracket()
    tree = expression(reader)
    reader.close_bracket()
    return tree


def constant(reader):
    """A number, text or error."""
    kind, what = reader.kind, reader.what
    reader.go_on()
    if kind == "number":
        return ("number", read_amount(what))
    if kind == "error":
        return ("error", what[1:-1])
    return ("text", what)


def area(reader, key):
    """A cell, range, rows or columns of the sheet with this key."""
    kind, what = reader.kind, reader.what
    if kind not in ("cell", "rows", "columns"):
        raise Fault(reader.at)
    reader.go_on()
    if kind == "rows":
        return rows_node(key, what)
    if kind == "columns":
        return columns_node(key, what)
    if not reader.is_at(":"):
        return cell_node(key, what)
    reader.go_on()
    if reader.kind != "cell":
        raise Fault(reader.at)
    last = reader.what
    reader.go_on()
    return range_node(key, what, last)


def word(reader):
    """What begins with a word: a truth value, a place, a call or a name."""
    what, at = reader.what, reader.at
    reader.go_on()
    if what in ("TRUE", "FALSE"):
        return ("truth", what == "TRUE")
    if reader.is_at("!"):
        if what not in reader.sheet_keys:
            raise Fault(at)
        reader.go_on()
        return area(reader, reader.sheet_keys[what])
    if not reader.is_at("("):
        return ("name", what)
    told = arguments(reader)
    # What is wrong with them is met at the closing bracket, ahead of the next token.
    tree = tree_of_call(what, at, told)
    reader.close_bracket()
    return tree


def arguments(reader):
    """Each argument up to the closing bracket, to which the reader has come then."""
    reader.open_bracket()
    if reader.is_at(")"):
        return []
    told = [argument(reader)]
    while reader.is_at(","):
        if len(told) == MOST_ARGUMENTS:
            raise Fault(reader.at)
        reader.go_on()
        told.append(argument(reader))
    if not reader.is_at(")"):
        raise Fault(reader.at)
    return told


def argument(reader):
    """An argument as (tree, at, whether it begins with a word)."""
    kind, at = reader.kind, reader.at
    if reader.is_at(",") or reader.is_at(")"):
        return (EMPTY, at, False)
    tree = expression(reader)
    return (tree, at, kind == "word")


def trees_of(told):
    """The trees of arguments."""
    return tuple([tree for tree, _, _ in told])


def tree_of_call(what, at, told):
    """The tree of a word that stands at this place, with these arguments."""
    if what == "LET":
        return let_tree(at, told)
    if what == "LAMBDA":
        return lambda_tree(at, told)
    if what not in COUNTS:
        return ("apply", ("name", what), trees_of(told))
    least, greatest = COUNTS[what]
    if len(told) < least or len(told) > greatest:
        raise Fault(at)
    return ("call", what, trees_of(told))


def let_tree(at, told):
    """The tree of a LET at this place, with these arguments."""
    if len(told) not in LET_COUNTS:
        raise Fault(at)
    words = [bound_word(one) for one in told[:-1:2]]
    return ("let", tuple(words), trees_of(told[1::2]), told[-1][0])


def lambda_tree(at, told):
    """The tree of a LAMBDA at this place, with these arguments."""
    if len(told) < 1 or len(told) > MOST_OF_LAMBDA:
        raise Fault(at)
    words = []
    for one in told[:-1]:
        new = bound_word(one)
        if new in words:
            raise Fault(one[1])
        words.append(new)
    return ("lambda", tuple(words), told[-1][0])


def bound_word(one):
    """The word of an argument, which has to be one that may be a name."""
    tree, at, is_word = one
    # A name that begins with a word is that word alone, without brackets.
    if not is_word or tree[0] != "name" or not is_name(tree[1]):
        raise Fault(at)
    return tree[1]


def array_tree(reader):
    """An array in braces; all its rows are as long as the first one."""
    rows = [array_row(reader, MOST_COLUMNS)]
    wide = len(rows[0])
    while reader.is_at(";"):
        many = len(rows) * wide
        if len(rows) == MOST_ROWS or many == MOST_MEMBERS:
            raise Fault(reader.at)
        row = array_row(reader, min(wide, MOST_MEMBERS - many))
        if len(row) < wide:
            raise Fault(reader.at)
        rows.append(row)
    reader.take("}")
    return ("array", tuple(rows))


def array_row(reader, most):
    """A row behind the brace or semicolon to which the reader has come."""
    reader.go_on()
    row = [array_constant(reader)]
    while reader.is_at(","):
        if len(row) == most:
            raise Fault(reader.at)
        reader.go_on()
        row.append(array_constant(reader))
    return tuple(row)


def array_constant(reader):
    """A number, perhaps with a minus ahead, a text, error or truth value."""
    kind, what = reader.kind, reader.what
    if reader.is_at("-"):
        reader.go_on()
        if reader.kind != "number":
            raise Fault(reader.at)
        return ("number", -constant(reader)[1])
    if kind == "word" and what in ("TRUE", "FALSE"):
        reader.go_on()
        return ("truth", what == "TRUE")
    if kind not in ("number", "text", "error"):
        raise Fault(reader.at)
    return constant(reader)
