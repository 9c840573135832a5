"""The canonical text of a formula's tree.

A tree is written as a row of pieces: strings, and (tree, rank) for a tree that
is still to be written at a place that needs this rank. So no function here
calls itself, since a tree may be deeper than calls may nest.
"""

from sheetworks.library import COUNTS
from sheetworks.signs import LETTERS
from sheetworks.values import shown

RANKS = {"=": 1, "<>": 1, "<": 1, "<=": 1, ">": 1, ">=": 1, "&": 2, "+": 3, "-": 3,
         "*": 4, "/": 4, "^": 5}
RANK_OF_ANY = 1
RANK_OF_SIGN = 6
RANK_OF_OTHERS = 7


def rank(tree):
    """How tightly the parts of a tree hold together."""
    if tree[0] == "binary":
        return RANKS[tree[1]]
    if tree[0] == "sign":
        return RANK_OF_SIGN
    return RANK_OF_OTHERS


def constant(v):
    """The text of a scalar; that of a missing argument is empty."""
    if v[0] == "text":
        return '"' + v[1].replace('"', '""') + '"'
    return shown(v)


def row_text(row, is_fixed):
    """A row's number with its $."""
    mark = "$" if is_fixed else ""
    return f"{mark}{row + 1}"


def column_text(column, is_fixed):
    """A column's letter with its $."""
    mark = "$" if is_fixed else ""
    return mark + LETTERS[column]


def cell_text(row, column, fixed_row, fixed_column):
    """A cell without its sheet."""
    return column_text(column, fixed_column) + row_text(row, fixed_row)


def area_text(tree):
    """A cell, range, rows or columns without their sheet."""
    kind, _, *numbers = tree
    if kind == "cell":
        return cell_text(*numbers)
    if kind == "range":
        top, left, bottom, right, fixed_top, fixed_left, fixed_bottom, fixed_right = numbers
        first = cell_text(top, left, fixed_top, fixed_left)
        last = cell_text(bottom, right, fixed_bottom, fixed_right)
        return f"{first}:{last}"
    low, high, fixed_low, fixed_high = numbers
    if kind == "rows":
        return row_text(low, fixed_low) + ":" + row_text(high, fixed_high)
    return column_text(low, fixed_low) + ":" + column_text(high, fixed_high)


def area_pieces(tree, names):
    """A cell, range, rows or columns; names tells the sheets' names by keys."""
    if tree[1] is None:
        return [area_text(tree)]
    return [names[tree[1]], "!", area_text(tree)]


def constant_pieces(tree, _):
    """A number, text, truth value, error or missing argument."""
    return [constant(tree)]


def array_pieces(tree, _):
    """An array in braces."""
    rows = [",".join([constant(v) for v in row]) for row in tree[1]]
    return ["{", ";".join(rows), "}"]


def name_pieces(tree, _):
    """A name."""
    return [tree[1]]


def sign_pieces(tree, _):
    """A sign and what it stands ahead of."""
    return [tree[1], (tree[2], RANK_OF_SIGN)]


def binary_pieces(tree, _):
    """Two operands; rows of operators group from the left."""
    needed = rank(tree)
    return [(tree[2], needed), tree[1], (tree[3], needed + 1)]


def argument_pieces(arguments):
    """Arguments in their brackets; each is a string or a tree."""
    pieces = ["("]
    for at, argument in enumerate(arguments):
        if at > 0:
            pieces.append(",")
        pieces.append(argument if isinstance(argument, str) else (argument, RANK_OF_ANY))
    pieces.append(")")
    return pieces


def call_pieces(tree, _):
    """A call of a library function."""
    return [tree[1], *argument_pieces(tree[2])]


def let_pieces(tree, _):
    """A LET: each word ahead of its tree, then the body."""
    pairs = [part for pair in zip(tree[1], tree[2]) for part in pair]
    return ["LET", *argument_pieces([*pairs, tree[3]])]


def lambda_pieces(tree, _):
    """A LAMBDA: its words, then its body."""
    return ["LAMBDA", *argument_pieces([*tree[1], tree[2]])]


def apply_pieces(tree, _):
    """A call of what comes of a tree."""
    called = [(tree[1], RANK_OF_ANY)]
    if not is_called_bare(tree[1]):
        called = ["(", *called, ")"]
    return [*called, *argument_pieces(tree[2])]


def is_called_bare(tree):
    """Whether a tree can be called without brackets round it."""
    if tree[0] == "name":
        # With a bracket right behind it such a word is read as something else.
        return tree[1] not in COUNTS and tree[1] not in ("LET", "LAMBDA")
    return tree[0] in ("call", "apply", "let", "lambda")


WRITERS = {
    "number": constant_pieces, "text": constant_pieces, "truth": constant_pieces,
    "error": constant_pieces, "empty": constant_pieces, "array": array_pieces,
    "cell": area_pieces, "range": area_pieces, "rows": area_pieces, "columns": area_pieces,
    "name": name_pieces, "sign": sign_pieces, "binary": binary_pieces, "call": call_pieces,
    "let": let_pieces, "lambda": lambda_pieces, "apply": apply_pieces,
}


def pieces_of(tree, needed, names):
    """The pieces of a tree, in brackets if its rank is below what is needed."""
    writer = WRITERS[tree[0]]
    pieces = writer(tree, names)
    if rank(tree) < needed:
        return ["(", *pieces, ")"]
    return pieces


def write_formula(tree, sheets):
    """The canonical text of a tree; sheets is a sequence of (key, name)."""
    names = {key: name for key, name in sheets}
    written = ["="]
    waiting = [(tree, RANK_OF_ANY)]
    while waiting:
        piece = waiting.pop()
        if isinstance(piece, str):
            written.append(piece)
        else:
            # What waits longest is written last, so the pieces go in from the end.
            waiting.extend(pieces_of(piece[0], piece[1], names)[::-1])
    return "".join(written)
