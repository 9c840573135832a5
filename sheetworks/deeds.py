"""Deeds that put and clear cells and define names; each tells the content behind it."""

from sheetworks.checks import (blocks_cut, blocks_touched, check_area, check_cell, refuse_blocks)
from sheetworks.contents import area_at, draft_of, key_of
from sheetworks.entries import MOST_SIGNS_PUT, check_signs, entry_of, formula_of, name_tree_of
from sheetworks.errors import BadName, BadPlace, NoRoom, NothingThere
from sheetworks.names import is_name
from sheetworks.signs import capital
from sheetworks.values import MOST_MEMBERS

MOST_NAMES = 12


def putting(content, sheet, row, column, text):
    """put"""
    check_cell(content, sheet, row, column)
    check_signs(text, MOST_SIGNS_PUT)
    constant, tree = entry_of(text, content.sheet_row)
    area = area_at(key_of(content, sheet), row, column, 1, 1)
    refuse_blocks(content, blocks_touched(content, area))
    draft = draft_of(content)
    draft.make_empty(area)
    place = area[:3]
    if tree is None:
        draft.put_constant(place, constant)
    else:
        draft.put_formula(place, (tree, 1, 1))
    return draft


def putting_block(content, sheet, row, column, height, width, text):
    """put_block"""
    check_area(content, sheet, row, column, height, width)
    if height * width < 2 or height * width > MOST_MEMBERS:
        raise BadPlace(3)
    check_signs(text, MOST_SIGNS_PUT)
    tree = formula_of(text, content.sheet_row)
    area = area_at(key_of(content, sheet), row, column, height, width)
    refuse_blocks(content, blocks_cut(content, area))
    draft = draft_of(content)
    draft.make_empty(area)
    draft.put_formula(area[:3], (tree, height, width))
    return draft


def clearing(content, sheet, row, column, height, width):
    """clear"""
    check_area(content, sheet, row, column, height, width)
    area = area_at(key_of(content, sheet), row, column, height, width)
    refuse_blocks(content, blocks_cut(content, area))
    draft = draft_of(content)
    draft.make_empty(area)
    return draft


def defining(content, name, text):
    """define"""
    if not is_name(name):
        raise BadName(name)
    check_signs(text, MOST_SIGNS_PUT)
    tree = name_tree_of(text, content.sheet_row)
    word = capital(name)
    if word not in content.name_trees and len(content.name_trees) >= MOST_NAMES:
        raise NoRoom("names")
    draft = draft_of(content)
    draft.name_trees[word] = tree
    return draft


def undefining(content, name):
    """undefine"""
    word = defined_word(content, name)
    draft = draft_of(content)
    del draft.name_trees[word]
    return draft


def defined_word(content, name):
    """The capital form of a name that has to be there."""
    word = capital(name)
    if word not in content.name_trees:
        raise NothingThere(name)
    return word
