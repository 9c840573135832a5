"""The solution of a workbook: what its formulas come to, and what they read."""

from sheetworks.arrays import NOT_THERE, repeated
from sheetworks.contents import key_named
from sheetworks.values import EMPTY

CIRCLE = ("error", "CIRC")


class Solution:
    """The results and reads of all formulas of a content.

    A formula whose value is that of circles has the result None.
    """

    def __init__(self, content):
        self.content = content
        self.results = {}
        self.read_rows = {}
        # For each thing that is read the places of the formulas that read it.
        self.reader_places = {}

    def value_at(self, place):
        """The scalar that a cell shows."""
        owner = self.content.owners.get(place)
        if owner is None:
            return self.content.constants.get(place, EMPTY)
        result = self.results[owner]
        if result is None:
            return CIRCLE
        return repeated(result, place[1] - owner[1], place[2] - owner[2]) or NOT_THERE

    def readers_of(self, thing):
        """The places of the formulas that read a thing."""
        return list(self.reader_places.get(thing, {}))

    def way_round(self, cell):
        """The cells from one in a circle on, till a formula comes again.

        Of a cell that is in none, and leads to none, there is no way.
        """
        cells = []
        owners = []
        owner = self.content.owners.get(cell)
        while owner is not None and self.results[owner] is None and owner not in owners:
            cells.append(cell)
            owners.append(owner)
            cell = self.read_rows[owner][-1][1:]
            owner = self.content.owners.get(cell)
        return cells + [cell] if cells else cells

    def settle(self, place, result, reads):
        """Keeps what a formula comes to, in place of what it came to before."""
        self.forget(place)
        self.results[place] = result
        self.read_rows[place] = reads
        for thing in reads:
            if thing not in self.reader_places:
                self.reader_places[thing] = {}
            self.reader_places[thing][place] = True

    def forget(self, place):
        """Forgets what a formula came to, if anything is known of it."""
        if place not in self.results:
            return
        for thing in self.read_rows[place]:
            readers = self.reader_places[thing]
            del readers[place]
            if not readers:
                del self.reader_places[thing]
        del self.results[place]
        del self.read_rows[place]


class Known:
    """The world of a solution, in which some formulas may be pending.

    Cells of these, and those in circles, are unknown.
    """

    def __init__(self, solution, pending):
        self.solution = solution
        self.pending = pending

    def cell(self, key, row, column):
        """The value of a cell, or None while it is unknown."""
        place = (key, row, column)
        if self.solution.content.owners.get(place) in self.pending:
            return None
        v = self.solution.value_at(place)
        return None if v == CIRCLE else v

    def name(self, word):
        """The tree that a name stands for, or None."""
        return self.solution.content.name_trees.get(word)

    def sheet(self, word):
        """The key of the sheet with this name, or None."""
        return key_named(self.solution.content, word)
