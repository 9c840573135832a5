"""What a deed makes evaluate anew, and the values that come of it.

A formula is pending while it is not known whether its value is another one
now, or which. It is anew as soon as something that it had read is known to be
another one, or if it is new at its place; then it is evaluated, and again each
time that the pending cell at which it ended is settled. A pending formula
whose former reads are all settled and the same is settled as it was. Those
that wait for one another in the end are in circles.
"""

from sheetworks.contents import cells_of, key_named, told_places
from sheetworks.solving import CIRCLE, Known
from sheetworks.values import EMPTY


class Wave:
    """The way from the solution of one content to that of another one."""

    def __init__(self, solution, content, evaluate):
        self.solution = solution
        self.before = solution.content
        self.content = content
        self.evaluate = evaluate
        # What cells showed before, where that may be another value now.
        self.old_values = {}
        # Places of formulas: those that are pending, those that are anew, how
        # many pending cells others wait for, and which wait for one to be settled.
        self.pending = {}
        self.anew = {}
        self.waiting = {}
        self.blocked = {}
        self.tried = {}
        self.ready = []
        self.settled = []
        self.world = Known(solution, self.pending)

    def run(self):
        """Makes the solution that of the content; tells (anew, changed) as places."""
        self.begin()
        while self.ready or self.settled:
            if self.settled:
                self.tell_readers(self.settled.pop())
            else:
                self.try_all_ready()
        self.end_in_circles()
        return list(self.anew), self.changed_cells()

    def begin(self):
        """Finds what is anew from the beginning, and what waits for it."""
        new = self.new_formulas()
        changed = self.changed_plain_cells()
        reread = [place for thing in self.changed_things(changed)
                  for place in self.solution.readers_of(thing)]
        gone = [place for place in self.before.formulas
                if self.content.formulas.get(place) != self.before.formulas[place]]
        is_gone = {place: True for place in gone}
        for place in new + [place for place in reread if place not in is_gone]:
            self.anew[place] = True
        self.find_pending(is_gone)
        for place in gone:
            self.solution.forget(place)
        self.solution.content = self.content
        self.ready = list(self.anew)
        for place in self.pending:
            if place not in self.anew:
                self.waiting[place] = len(self.pending_reads(place))

    def new_formulas(self):
        """The places of the formulas that are new at their place."""
        formulas = self.content.formulas
        return [place for place in formulas if self.before.formulas.get(place) != formulas[place]]

    def changed_plain_cells(self):
        """The cells without a formula now whose value is another one now."""
        changed = []
        for cells in (self.before.constants, self.before.owners, self.content.constants):
            for place in cells:
                if place not in self.content.owners and place not in self.old_values:
                    old = self.solution.value_at(place)
                    if old != self.content.constants.get(place, EMPTY):
                        self.old_values[place] = old
                        changed.append(place)
        return changed

    def changed_things(self, cells):
        """What can be read and is another one now, but for cells with a formula."""
        things = [("cell", key, row, column) for key, row, column in cells]
        before, now = self.before.name_trees, self.content.name_trees
        for word in list(before) + list(now):
            if before.get(word) != now.get(word):
                things.append(("name", word))
        for _, word in self.before.sheet_row + self.content.sheet_row:
            if key_named(self.before, word) != key_named(self.content, word):
                things.append(("sheet", word))
        return things

    def find_pending(self, is_gone):
        """All that could be touched by what is anew, and what its cells showed."""
        found = list(self.anew)
        for place in found:
            self.pending[place] = True
        while found:
            place = found.pop()
            for cell in cells_of(place, self.content.formulas[place]):
                self.old_values[cell] = self.solution.value_at(cell)
                for reader in self.solution.readers_of(("cell", *cell)):
                    if reader not in self.pending and reader not in is_gone:
                        self.pending[reader] = True
                        found.append(reader)

    def pending_reads(self, place):
        """The cells of pending formulas that a formula had read, in their sequence."""
        cells = [thing[1:] for thing in self.solution.read_rows[place] if thing[0] == "cell"]
        return [cell for cell in cells if self.content.owners.get(cell) in self.pending]

    def try_all_ready(self):
        """Evaluates the formulas that are ready, those that have waited longest first."""
        ready = self.ready
        self.ready = []
        for place in ready:
            self.try_formula(place)

    def try_formula(self, place):
        """Evaluates a formula that is anew; it may end at a cell that is unknown."""
        evaluate = self.evaluate
        result, reads = evaluate(self.content.formulas[place][0], place[0], self.world)
        if result is None:
            owner = self.content.owners.get(reads[-1][1:])
            self.tried[place] = reads
            self.blocked.setdefault(owner, []).append(place)
        else:
            self.solution.settle(place, result, reads)
            del self.pending[place]
            self.settled.append(place)

    def tell_readers(self, place):
        """Lets those go on that wait for the cells of a formula that is settled."""
        self.ready.extend(self.blocked.get(place, []))
        for cell in cells_of(place, self.content.formulas[place]):
            is_changed = self.solution.value_at(cell) != self.old_values[cell]
            for reader in self.solution.readers_of(("cell", *cell)):
                if reader in self.pending and reader not in self.anew:
                    self.tell_reader(reader, is_changed)

    def tell_reader(self, reader, is_changed):
        """One of the cells for which a formula waits is settled."""
        self.waiting[reader] -= 1
        if is_changed:
            self.anew[reader] = True
            self.ready.append(reader)
        elif self.waiting[reader] == 0:
            del self.pending[reader]
            self.settled.append(reader)

    def end_in_circles(self):
        """Settles those that are still pending: none of them can become known."""
        reads_of = {}
        for place in self.pending:
            if place in self.anew:
                reads_of[place] = self.tried[place]
            else:
                reads_of[place] = self.reads_in_circle(place)
        for place in reads_of:
            self.solution.settle(place, None, reads_of[place])

    def reads_in_circle(self, place):
        """The reads of a formula that ends at the first pending cell of its former reads."""
        cells = self.pending_reads(place)
        if [cell for cell in cells if self.old_values[cell] != CIRCLE]:
            self.anew[place] = True
        reads = self.solution.read_rows[place]
        return reads[:reads.index(("cell", *cells[0])) + 1]

    def changed_cells(self):
        """The cells whose value is another one now, of sheets that are there both times."""
        before = {key: True for key, _ in self.before.sheet_row}
        now = {key: True for key, _ in self.content.sheet_row}
        return [cell for cell in self.old_values if cell[0] in before and cell[0] in now
                and self.old_values[cell] != self.solution.value_at(cell)]


def waved(solution, content, evaluate):
    """Makes a solution that of a content; tells (anew, changed) as calls tell places."""
    anew, changed = Wave(solution, content, evaluate).run()
    return told_places(content, anew), told_places(content, changed)
