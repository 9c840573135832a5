"""What formulas are evaluated in."""

from sheetworks.values import EMPTY


class World:
    """Cells, names and sheets as they are handed in; it keeps copies."""

    def __init__(self, cells, unknown, names, sheets):
        self.known_cells = {place: cells[place] for place in cells}
        self.unknown_cells = {place: True for place in unknown}
        self.name_trees = {word: names[word] for word in names}
        self.sheet_keys = {word: key for key, word in sheets}

    def cell(self, key, row, column):
        """The value of a cell, or None while it is unknown."""
        place = (key, row, column)
        if place in self.unknown_cells:
            return None
        return self.known_cells.get(place, EMPTY)

    def name(self, word):
        """The tree that a name stands for, or None."""
        return self.name_trees.get(word)

    def sheet(self, word):
        """The key of the sheet with this name, or None."""
        return self.sheet_keys.get(word)
