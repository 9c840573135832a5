"""A slow working of workbooks from their texts alone, against which books are held."""

from sheetworks.evaluation import evaluated
from sheetworks.parsing import read_formula
from sheetworks.worlds import World

EMPTY = ("empty",)
CIRCLE = ("error", "CIRC")
GONE = ("gone",)


class Snapshot:
    """All that a book tells, and what is worked out from its texts."""

    def __init__(self, book):
        self.sheets = book.sheets()
        self.keys = [key for key, _ in self.sheets]
        self.names = {word: read_formula(book.definition(word), self.sheets) for word in book.names()}
        self.constants, self.formulas, self.owners, self.texts = {}, {}, {}, {}
        for sheet, key in enumerate(self.keys):
            for row in range(20):
                for column in range(10):
                    self.take_cell(book, sheet, (key, row, column))
        self.solve()

    def take_cell(self, book, sheet, place):
        key, row, column = place
        told = book.text(sheet, row, column)
        block = book.block_of(sheet, row, column)
        self.texts[place] = (told, block)
        if block is not None:
            top, left, height, width = block
            owner = (key, top, left)
        elif told.startswith("=") and len(told) > 1:
            owner, height, width = place, 1, 1
        else:
            if told != "":
                self.constants[place] = book.value(sheet, row, column)
            return
        self.owners[place] = owner
        if owner == place:
            self.formulas[place] = (read_formula(told, self.sheets), height, width)

    def solve(self):
        """The least solution: formulas are evaluated as long as that makes another one known."""
        self.results, self.reads = {}, {}
        waiting = list(self.formulas)
        known = dict(self.constants)
        unknown = {cell: True for cell in self.owners}
        while waiting:
            left = []
            for place in waiting:
                world = World({}, (), self.names, self.sheets)
                world.cell = lambda key, row, column: (
                    None if (key, row, column) in unknown else known.get((key, row, column), EMPTY))
                result, reads = evaluated(self.formulas[place][0], place[0], world)
                self.results[place], self.reads[place] = result, reads
                if result is None:
                    left.append(place)
                    continue
                for cell in self.cells(place):
                    del unknown[cell]
                    known[cell] = self.shown(place, cell)
            if len(left) == len(waiting):
                break
            waiting = left
        for cell in unknown:
            known[cell] = CIRCLE
        self.values = known

    def cells(self, place):
        key, row, column = place
        _, height, width = self.formulas[place]
        return [(key, row + i, column + j) for i in range(height) for j in range(width)]

    def shown(self, place, cell):
        """The member of a formula's result that a cell shows."""
        result = self.results[place]
        if result[0] != "array":
            return result
        _, height, width, members = result
        i = 0 if height == 1 else cell[1] - place[1]
        j = 0 if width == 1 else cell[2] - place[2]
        if i >= height or j >= width:
            return ("error", "NA")
        return members[i * width + j]

    def value(self, cell):
        return self.values.get(cell, EMPTY) if cell[0] in self.keys else GONE

    def answer(self, thing):
        """What is to be told of a thing that was read."""
        if thing[0] == "cell":
            return self.value(thing[1:])
        if thing[0] == "name":
            return self.names.get(thing[1])
        return {name: key for key, name in self.sheets}.get(thing[1])

    def places(self, places):
        return tuple(sorted([(self.keys.index(key), row, column) for key, row, column in places]))

    def anew_since(self, before):
        """The formulas of [44]."""
        found = []
        for place, formula in self.formulas.items():
            if before.formulas.get(place) != formula:
                found.append(place)
            elif [thing for thing in before.reads[place] if before.answer(thing) != self.answer(thing)]:
                found.append(place)
        return self.places(found)

    def changed_since(self, before):
        cells = [(key, row, column) for key in self.keys if key in before.keys
                 for row in range(20) for column in range(10)]
        return self.places([cell for cell in cells if before.value(cell) != self.value(cell)])


class Logged:
    """evaluated, with all calls told."""

    def __init__(self):
        self.calls = []

    def __call__(self, tree, own, world):
        found = evaluated(tree, own, world)
        self.calls.append((tree, own, found[0]))
        return found


def check_book(case, book, now, note=""):
    """Holds all values and reads of a book against those that were worked out."""
    for sheet, key in enumerate(now.keys):
        for row in range(20):
            for column in range(10):
                place = (key, row, column)
                case.assertEqual(book.value(sheet, row, column), now.value(place), (note, place))
                owner = now.owners.get(place)
                if owner is not None:
                    case.assertEqual(book.reads(sheet, row, column), now.reads[owner], (note, place))


def check_deed(case, book, before, calls, is_back=False, note=""):
    """Holds what a deed told against a working from the texts; tells the snapshot behind it."""
    now = Snapshot(book)
    check_book(case, book, now, note)
    case.assertEqual(book.anew(), now.anew_since(before), note)
    case.assertEqual(book.changed(), now.changed_since(before), note)
    anew = [now.formulas[(now.keys[sheet], row, column)][0:1] + (now.keys[sheet],)
            for sheet, row, column in book.anew()]
    solved = [now.formulas[place][0:1] + (place[0],) for place in now.formulas
              if now.places([place])[0] in book.anew() and now.results[place] is not None]
    for tree, own, result in calls:
        case.assertIn((tree, own), anew, note)
    told = [(tree, own) for tree, own, result in calls if result is not None]
    for one in set(told):
        case.assertLessEqual(told.count(one), solved.count(one), note)
    if not is_back:
        case.assertEqual(sorted(map(repr, told)), sorted(map(repr, solved)), note)
    return now
