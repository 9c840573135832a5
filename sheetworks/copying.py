"""Deeds that copy, cut, fill and sort cells; each tells the content behind it."""

from sheetworks.checks import (blocks_cut, blocks_touched, check_area, check_target, refuse_blocks)
from sheetworks.contents import area_at, area_of_formula, cells_in, draft_of, key_of, remade
from sheetworks.errors import BadPlace
from sheetworks.moves import carried, lies_in, shifted
from sheetworks.values import EMPTY, order_key


def copying(content, source_told, target_told):
    """copy: source as (sheet, row, column, height, width), target as (sheet, row, column)."""
    source, target = checked_areas(content, source_told, target_told)
    refuse_blocks(content, blocks_cut(content, source))
    refuse_blocks(content, blocks_cut(content, target))
    draft = draft_of(content)
    draft.make_empty(target)
    put_copies(content, draft, source, target[:3])
    return draft


def checked_areas(content, source_told, target_told):
    """The areas of source and target; BadPlace where one is not there."""
    sheet, row, column, height, width = source_told
    to_sheet, to_row, to_column = target_told
    check_area(content, sheet, row, column, height, width)
    check_target(content, to_sheet, to_row, to_column, height, width)
    source = area_at(key_of(content, sheet), row, column, height, width)
    return source, area_at(key_of(content, to_sheet), to_row, to_column, height, width)


def put_copies(content, draft, source, target):
    """Puts what a content has in the area source into a draft, from the place target on."""
    key, top, left = target
    down, right = top - source[1], left - source[2]
    for place in cells_in(source):
        new = (key, place[1] + down, place[2] + right)
        draft.put_constant(new, content.constants.get(place, EMPTY))
        if place in content.formulas:
            tree, height, width = content.formulas[place]
            draft.put_formula(new, (shifted(tree, down, right), height, width))


def filling(content, told, is_down):
    """fill_down, fill_right: told is (sheet, row, column, height, width)."""
    sheet, row, column, height, width = told
    check_area(content, sheet, row, column, height, width)
    key = key_of(content, sheet)
    area = area_at(key, row, column, height, width)
    refuse_blocks(content, blocks_touched(content, area))
    draft = draft_of(content)
    if is_down:
        first = area_at(key, row, column, 1, width)
        targets = [(key, at, column) for at in range(row + 1, row + height)]
        draft.make_empty(area_at(key, row + 1, column, height - 1, width))
    else:
        first = area_at(key, row, column, height, 1)
        targets = [(key, row, at) for at in range(column + 1, column + width)]
        draft.make_empty(area_at(key, row, column + 1, height, width - 1))
    for target in targets:
        put_copies(content, draft, first, target)
    return draft


def cutting(content, source_told, target_told):
    """cut: arguments as those of copying."""
    source, target = checked_areas(content, source_told, target_told)
    refuse_blocks(content, blocks_cut(content, source))
    cut = [place for place in blocks_cut(content, target)
           if not lies_in(area_of_formula(place, content.formulas[place]), source)]
    refuse_blocks(content, cut)

    def place_deed(place):
        return carried_place(place, source, target)

    def tree_deed(tree, own, own_after):
        return carried(tree, own, own_after, source, target)
    return remade(content, content.sheet_row, place_deed, tree_deed)


def carried_place(place, source, target):
    """The new place of what stands at a place, or None if it goes."""
    key, row, column = place
    cell = (key, row, column, row, column)
    if lies_in(cell, source):
        return (target[0], row + target[1] - source[1], column + target[2] - source[2])
    if lies_in(cell, target):
        return None
    return place


def sorting(solution, told, key, falling):
    """sort_rows: told is (sheet, row, column, height, width)."""
    content = solution.content
    sheet, row, column, height, width = told
    check_area(content, sheet, row, column, height, width)
    if key < 0 or key >= width:
        raise BadPlace(5)
    sheet_key = key_of(content, sheet)
    area = area_at(sheet_key, row, column, height, width)
    refuse_blocks(content, blocks_touched(content, area))
    keys = {at: order_key(solution.value_at((sheet_key, at, column + key)))
            for at in range(row, row + height)}
    if falling:
        rows = sorted(keys, key=lambda at: keys[at], reverse=True)
    else:
        rows = sorted(keys, key=lambda at: keys[at])
    draft = draft_of(content)
    draft.make_empty(area)
    for place_in_area, old in enumerate(rows):
        line = area_at(sheet_key, old, column, 1, width)
        put_copies(content, draft, line, (sheet_key, row + place_in_area, column))
    return draft
