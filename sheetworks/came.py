"""What came of a tree, taken as rows and columns: a reference, unread, or a value."""

from sheetworks.places import COLUMNS, ROWS
from sheetworks.values import array, height, member, width

LOST = ("error", "REF")


def height_of(came):
    """How many rows a reference or a value has."""
    return came[4] - came[2] + 1 if came[0] == "area" else height(came)


def width_of(came):
    """How many columns a reference or a value has."""
    return came[5] - came[3] + 1 if came[0] == "area" else width(came)


def scalar_at(call, came, i, j):
    """The scalar at row i and column j; a cell is read."""
    if came[0] == "area":
        return call.working.cell(came[1], came[2] + i, came[3] + j)
    return member(came, i, j)


def part_of(came, i, j, h, w):
    """The h rows and w columns from row i and column j on; nothing is read."""
    if came[0] == "area":
        top, left = came[2] + i, came[3] + j
        return ("area", came[1], top, left, top + h - 1, left + w - 1)
    members = []
    for row in range(i, i + h):
        members.extend([member(came, row, column) for column in range(j, j + w)])
    return array(h, w, members)


def indexed(came, i, j):
    """Row i and column j of what came, from 1 on; 0 means all of that direction."""
    h, w = height_of(came), width_of(came)
    if i < 0 or i > h or j < 0 or j > w:
        return LOST
    top, high = (0, h) if i == 0 else (i - 1, 1)
    left, wide = (0, w) if j == 0 else (j - 1, 1)
    return part_of(came, top, left, high, wide)


def reference_to(key, top, left, h, w):
    """The reference of so many rows and columns, if it lies on the sheet."""
    if h < 1 or w < 1 or top < 0 or left < 0 or top + h > ROWS or left + w > COLUMNS:
        return LOST
    return ("area", key, top, left, top + h - 1, left + w - 1)
