"""What stands in a workbook: sheets, cells, names.

A place is (key, row, column); the key is that of its sheet. A formula stands
at the place of its cell, one over a block at that of its first cell.
"""

from sheetworks.values import EMPTY


class Content:
    """The content of a workbook; once a deed is done with it, it stays as it is."""

    def __init__(self, sheet_row, names):
        # The sheets in their row, as (key, name); the names' trees by words.
        self.sheet_row = tuple(sheet_row)
        self.name_trees = dict(names)
        # Constants that are not empty, formulas as (tree, height, width), and
        # for each cell of a formula the place of that.
        self.constants = {}
        self.formulas = {}
        self.owners = {}

    def put_constant(self, place, v):
        """Puts a constant into an empty cell."""
        if v != EMPTY:
            self.constants[place] = v

    def put_formula(self, place, formula):
        """Puts a formula into empty cells."""
        self.formulas[place] = formula
        for cell in cells_of(place, formula):
            self.owners[cell] = place

    def take_formula(self, place):
        """Takes a formula away from all its cells."""
        for cell in cells_of(place, self.formulas[place]):
            del self.owners[cell]
        del self.formulas[place]

    def make_empty(self, area):
        """Empties the cells of an area; blocks that begin or end in it go."""
        for cell in cells_in(area):
            if cell in self.constants:
                del self.constants[cell]
            if cell in self.owners:
                self.take_formula(self.owners[cell])


def first_content():
    """The content of a new workbook."""
    return Content([(0, "MAIN")], {})


def draft_of(content):
    """A copy of a content, which may be changed."""
    draft = Content(content.sheet_row, content.name_trees)
    draft.constants = {place: content.constants[place] for place in content.constants}
    draft.formulas = {place: content.formulas[place] for place in content.formulas}
    draft.owners = {place: content.owners[place] for place in content.owners}
    return draft


def remade(content, sheet_row, place_deed, tree_deed):
    """A content whose cells stand at other places, with trees that follow.

    place_deed tells the new place of what stands at a place, or None if that
    goes; tree_deed gets a tree, the key of its sheet, and that key behind.
    """
    names = {word: tree_deed(content.name_trees[word], None, None) for word in content.name_trees}
    made = Content(sheet_row, names)
    for place in content.constants:
        new = place_deed(place)
        if new is not None:
            made.put_constant(new, content.constants[place])
    for place in content.formulas:
        new = place_deed(place)
        if new is not None:
            tree, height, width = content.formulas[place]
            made.put_formula(new, (tree_deed(tree, place[0], new[0]), height, width))
    return made


def area_at(key, row, column, height, width):
    """The area of so many cells from a cell on."""
    return (key, row, column, row + height - 1, column + width - 1)


def area_of_formula(place, formula):
    """The area of a formula's cells."""
    key, row, column = place
    return area_at(key, row, column, formula[1], formula[2])


def cells_in(area):
    """The places of an area's cells, row by row."""
    key, top, left, bottom, right = area
    return [(key, row, column) for row in range(top, bottom + 1)
            for column in range(left, right + 1)]


def cells_of(place, formula):
    """The places of a formula's cells, row by row."""
    return cells_in(area_of_formula(place, formula))


def is_block(formula):
    """Whether a formula stands over a block."""
    return formula[1] * formula[2] > 1


def key_of(content, sheet):
    """The key of the sheet at this place of the row."""
    return content.sheet_row[sheet][0]


def key_named(content, word):
    """The key of the sheet with this name in capital form, or None."""
    for key, name in content.sheet_row:
        if name == word:
            return key
    return None


def told_places(content, places):
    """Places as (sheet, row, column), ascending; sheet is the sheet's place in the row."""
    at = {one[0]: sheet for sheet, one in enumerate(content.sheet_row)}
    return tuple(sorted([(at[key], row, column) for key, row, column in places]))
