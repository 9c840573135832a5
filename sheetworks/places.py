"""Nodes that mean areas: made of what stands in a text, and taken apart.

A span is (low, high, fixed_low, fixed_high): the two numbers of a node along
one axis, the lesser one first, and whether each is fixed.
"""

from sheetworks.signs import LETTERS
from sheetworks.tokens import mark_end

ROWS = 20
COLUMNS = 10


def ordered(span):
    """A span whose numbers are in order, each with its own mark."""
    low, high, fixed_low, fixed_high = span
    if low > high:
        return (high, low, fixed_high, fixed_low)
    return span


def row_told(what):
    """The number of a row as it stands in a text, and whether it is fixed."""
    first = mark_end(what, 0)
    return int(what[first:]) - 1, first == 1


def column_told(what):
    """The number of a column as it stands in a text, and whether it is fixed."""
    first = mark_end(what, 0)
    return LETTERS.find(what[first:]), first == 1


def cell_told(what):
    """Row, column, and whether each is fixed, of a cell as it stands in a text."""
    letter_end = mark_end(what, 0) + 1
    row, fixed_row = row_told(what[letter_end:])
    column, fixed_column = column_told(what[:letter_end])
    return (row, column, fixed_row, fixed_column)


def cell_node(sheet, what):
    """The node of a cell as it stands in a text."""
    return ("cell", sheet, *cell_told(what))


def range_node(sheet, first, last):
    """The node of the range between two corners."""
    row, column, fixed_row, fixed_column = cell_told(first)
    end_row, end_column, fixed_end_row, fixed_end_column = cell_told(last)
    rows = ordered((row, end_row, fixed_row, fixed_end_row))
    columns = ordered((column, end_column, fixed_column, fixed_end_column))
    return node_of("range", sheet, rows, columns)


def rows_node(sheet, what):
    """The node of rows as they stand in a text."""
    first, _, last = what.partition(":")
    low, fixed_low = row_told(first)
    high, fixed_high = row_told(last)
    return ("rows", sheet, *ordered((low, high, fixed_low, fixed_high)))


def columns_node(sheet, what):
    """The node of columns as they stand in a text."""
    first, _, last = what.partition(":")
    low, fixed_low = column_told(first)
    high, fixed_high = column_told(last)
    return ("columns", sheet, *ordered((low, high, fixed_low, fixed_high)))


def row_span(node):
    """The span of a node's rows; columns have none."""
    kind, _, *numbers = node
    if kind == "cell":
        row, _, fixed_row, _ = numbers
        return (row, row, fixed_row, fixed_row)
    if kind == "range":
        return (numbers[0], numbers[2], numbers[4], numbers[6])
    if kind == "rows":
        return tuple(numbers)
    return None


def column_span(node):
    """The span of a node's columns; rows have none."""
    kind, _, *numbers = node
    if kind == "cell":
        _, column, _, fixed_column = numbers
        return (column, column, fixed_column, fixed_column)
    if kind == "range":
        return (numbers[1], numbers[3], numbers[5], numbers[7])
    if kind == "columns":
        return tuple(numbers)
    return None


def node_of(kind, sheet, rows, columns):
    """The node of a kind with these spans; a cell has just one row and column."""
    if kind == "rows":
        return ("rows", sheet, *rows)
    if kind == "columns":
        return ("columns", sheet, *columns)
    top, bottom, fixed_top, fixed_bottom = rows
    left, right, fixed_left, fixed_right = columns
    if kind == "cell":
        return ("cell", sheet, top, left, fixed_top, fixed_left)
    return ("range", sheet, top, left, bottom, right,
            fixed_top, fixed_left, fixed_bottom, fixed_right)
