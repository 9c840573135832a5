"""Deeds that change sheets, their rows and columns; each tells the content behind it."""

from sheetworks.checks import blocks_cut, blocks_of, check_sheet, refuse_blocks
from sheetworks.contents import area_of_formula, cells_in, draft_of, key_of, remade
from sheetworks.errors import BadName, BadPlace, NoRoom
from sheetworks.moves import deleted, dropped, inserted
from sheetworks.names import is_name
from sheetworks.places import COLUMNS, ROWS
from sheetworks.signs import capital

MOST_SHEETS = 4
GREATEST_KEY = 999999998


def check_lines(content, sheet, at, many, is_rows):
    """Raises BadPlace unless these rows (columns) are there."""
    check_sheet(content, sheet)
    size = ROWS if is_rows else COLUMNS
    if at < 0 or at >= size:
        raise BadPlace(1)
    if many < 1 or at + many > size:
        raise BadPlace(2)


def lines_area(key, at, many, is_rows):
    """The area of some rows (columns)."""
    if is_rows:
        return (key, at, 0, at + many - 1, COLUMNS - 1)
    return (key, 0, at, ROWS - 1, at + many - 1)


def moved_place(place, by, is_rows):
    """A place so many rows (columns) further."""
    key, row, column = place
    return (key, row + by, column) if is_rows else (key, row, column + by)


def inserting(content, told, is_rows):
    """insert_rows, insert_columns: told is (sheet, at, many)."""
    sheet, at, many = told
    check_lines(content, sheet, at, many, is_rows)
    key = key_of(content, sheet)
    axis = 1 if is_rows else 2
    refuse_blocks(content, [place for place in blocks_of(content)
                            if parts_block(content, place, key, at, axis)])
    size = ROWS if is_rows else COLUMNS
    for cell in cells_in(lines_area(key, size - many, many, is_rows)):
        if cell in content.constants or cell in content.owners:
            raise NoRoom("rows" if is_rows else "columns")

    def place_deed(place):
        if place[0] != key or place[axis] < at:
            return place
        return moved_place(place, many, is_rows)

    def tree_deed(tree, own, _):
        return inserted(tree, own, key, at, many, is_rows)
    return remade(content, content.sheet_row, place_deed, tree_deed)


def parts_block(content, place, key, at, axis):
    """Whether a block has rows (columns) ahead of at and others from there on."""
    area = area_of_formula(place, content.formulas[place])
    return area[0] == key and area[axis] < at and area[axis + 2] >= at


def deleting(content, told, is_rows):
    """delete_rows, delete_columns: told is (sheet, at, many)."""
    sheet, at, many = told
    check_lines(content, sheet, at, many, is_rows)
    key = key_of(content, sheet)
    axis = 1 if is_rows else 2
    refuse_blocks(content, blocks_cut(content, lines_area(key, at, many, is_rows)))

    def place_deed(place):
        if place[0] != key or place[axis] < at:
            return place
        if place[axis] < at + many:
            return None
        return moved_place(place, -many, is_rows)

    def tree_deed(tree, own, _):
        return deleted(tree, own, key, at, many, is_rows)
    return remade(content, content.sheet_row, place_deed, tree_deed)


def check_sheet_name(content, name, key):
    """Raises BadName unless it is a name that no sheet but the one with this key has."""
    if not is_name(name):
        raise BadName(name)
    for other, word in content.sheet_row:
        if word == capital(name) and other != key:
            raise BadName(name)


def adding_sheet(content, at, name, key):
    """add_sheet: key is the one that the new sheet gets."""
    many = len(content.sheet_row)
    if at < 0 or at > many:
        raise BadPlace(0)
    check_sheet_name(content, name, None)
    if many >= MOST_SHEETS or key > GREATEST_KEY:
        raise NoRoom("sheets")
    row = content.sheet_row
    draft = draft_of(content)
    draft.sheet_row = row[:at] + ((key, capital(name)),) + row[at:]
    return draft


def dropping_sheet(content, at):
    """drop_sheet"""
    check_sheet(content, at)
    if len(content.sheet_row) == 1:
        raise NoRoom("sheets")
    key = key_of(content, at)
    row = content.sheet_row
    return remade(content, row[:at] + row[at + 1:],
                  lambda place: None if place[0] == key else place,
                  lambda tree, own, own_after: dropped(tree, key))


def renaming_sheet(content, at, name):
    """rename_sheet"""
    check_sheet(content, at)
    key = key_of(content, at)
    check_sheet_name(content, name, key)
    row = content.sheet_row
    draft = draft_of(content)
    draft.sheet_row = row[:at] + ((key, capital(name)),) + row[at + 1:]
    return draft


def moving_sheet(content, at, to):
    """move_sheet"""
    check_sheet(content, at)
    check_sheet(content, to, 1)
    rest = content.sheet_row[:at] + content.sheet_row[at + 1:]
    draft = draft_of(content)
    draft.sheet_row = rest[:to] + (content.sheet_row[at],) + rest[to:]
    return draft
