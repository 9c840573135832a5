"""Checks of the places that calls name, and of the blocks that they would cut."""

from sheetworks.contents import area_of_formula, cells_in, is_block, told_places
from sheetworks.errors import BadPlace, BlockCut
from sheetworks.moves import lies_in
from sheetworks.places import COLUMNS, ROWS


def check_sheet(content, sheet, at=0):
    """Raises BadPlace, telling that argument of the call, unless the sheet is there."""
    if sheet < 0 or sheet >= len(content.sheet_row):
        raise BadPlace(at)


def check_cell(content, sheet, row, column):
    """Raises BadPlace unless the cell is there."""
    check_sheet(content, sheet)
    if row < 0 or row >= ROWS:
        raise BadPlace(1)
    if column < 0 or column >= COLUMNS:
        raise BadPlace(2)


def check_area(content, sheet, row, column, height, width):
    """Raises BadPlace unless the area lies on the sheet."""
    check_cell(content, sheet, row, column)
    if height < 1 or row + height > ROWS:
        raise BadPlace(3)
    if width < 1 or column + width > COLUMNS:
        raise BadPlace(4)


def check_target(content, sheet, row, column, height, width):
    """Raises BadPlace unless an area of this size lies on the sheet from this cell on."""
    check_sheet(content, sheet, 5)
    if row < 0 or row + height > ROWS:
        raise BadPlace(6)
    if column < 0 or column + width > COLUMNS:
        raise BadPlace(7)


def blocks_of(content):
    """The places of all blocks."""
    return [place for place in content.formulas if is_block(content.formulas[place])]


def blocks_touched(content, area):
    """The places of the blocks with a cell in the area."""
    owners = [content.owners.get(cell) for cell in cells_in(area)]
    found = {owner: True for owner in owners if owner is not None}
    return [place for place in found if is_block(content.formulas[place])]


def blocks_cut(content, area):
    """The places of the blocks of which some cells lie in the area and some do not."""
    return [place for place in blocks_touched(content, area)
            if not lies_in(area_of_formula(place, content.formulas[place]), area)]


def refuse_blocks(content, places):
    """Raises BlockCut for the first one of these blocks, if there is one."""
    if places:
        sheet, row, column = told_places(content, places)[0]
        raise BlockCut(sheet, row, column)
