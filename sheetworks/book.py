"""Workbooks."""

from sheetworks.checks import check_cell, check_sheet
from sheetworks.contents import first_content, is_block, key_of, told_places
from sheetworks.copying import copying, cutting, filling, sorting
from sheetworks.deeds import (clearing, defined_word, defining, putting, putting_block, undefining)
from sheetworks.entries import MOST_SIGNS_PUT, check_signs, constant_text, formula_of
from sheetworks.evaluation import evaluated
from sheetworks.history import History
from sheetworks.lines import Journal, call_of, call_with_name
from sheetworks.solving import CIRCLE, Known, Solution
from sheetworks.structure import (adding_sheet, deleting, dropping_sheet, inserting, moving_sheet,
                                  renaming_sheet)
from sheetworks.values import EMPTY, shown
from sheetworks.waves import waved
from sheetworks.writing import write_formula


class Book:
    """A workbook; evaluate works out its formulas in place of evaluated."""

    def __init__(self, evaluate=None):
        self.evaluate = evaluated if evaluate is None else evaluate
        self.content = first_content()
        self.solution = Solution(self.content)
        self.history = History()
        self.calls = Journal()
        self.next_key = 1
        self.last_anew = ()
        self.last_changed = ()

    def sheets(self):
        """The sheets in their row, as (key, name)."""
        return self.content.sheet_row

    def put(self, sheet, row, column, text):
        """Puts what a text makes into a cell."""
        content = putting(self.content, sheet, row, column, text)
        self.do(content, call_of("put", [sheet, row, column, text]))

    def text(self, sheet, row, column):
        """What is in a cell, told back."""
        check_cell(self.content, sheet, row, column)
        place = (key_of(self.content, sheet), row, column)
        if place in self.content.owners:
            formula = self.content.formulas[self.content.owners[place]]
            return write_formula(formula[0], self.content.sheet_row)
        return constant_text(self.content.constants.get(place, EMPTY))

    def put_block(self, sheet, row, column, height, width, text):
        """Puts one formula over an area."""
        content = putting_block(self.content, sheet, row, column, height, width, text)
        self.do(content, call_of("put_block", [sheet, row, column, height, width, text]))

    def block_of(self, sheet, row, column):
        """(row, column, height, width) of the block in which a cell is, or None."""
        check_cell(self.content, sheet, row, column)
        owner = self.content.owners.get((key_of(self.content, sheet), row, column))
        if owner is None or not is_block(self.content.formulas[owner]):
            return None
        _, height, width = self.content.formulas[owner]
        return (owner[1], owner[2], height, width)

    def define(self, name, text):
        """Makes a name stand for a formula."""
        content = defining(self.content, name, text)
        self.do(content, call_with_name("define", [], name) + " " + text)

    def undefine(self, name):
        """Makes a name stand for nothing."""
        self.do(undefining(self.content, name), call_with_name("undefine", [], name))

    def names(self):
        """All names that are defined, ascending."""
        return tuple(sorted(self.content.name_trees))

    def definition(self, name):
        """The text of the formula that a name stands for."""
        word = defined_word(self.content, name)
        return write_formula(self.content.name_trees[word], self.content.sheet_row)

    def value(self, sheet, row, column):
        """The value of a cell."""
        check_cell(self.content, sheet, row, column)
        return self.solution.value_at((key_of(self.content, sheet), row, column))

    def shown(self, sheet, row, column):
        """The value of a cell as a string."""
        return shown(self.value(sheet, row, column))

    def reads(self, sheet, row, column):
        """What the formula of a cell reads."""
        check_cell(self.content, sheet, row, column)
        owner = self.content.owners.get((key_of(self.content, sheet), row, column))
        return () if owner is None else self.solution.read_rows[owner]

    def probe(self, sheet, text):
        """What a formula would come to on a sheet, and what it would read."""
        check_sheet(self.content, sheet)
        check_signs(text, MOST_SIGNS_PUT)
        tree = formula_of(text, self.content.sheet_row)
        key = key_of(self.content, sheet)
        result, reads = evaluated(tree, key, Known(self.solution, {}))
        return (CIRCLE if result is None else result, reads)

    def anew(self):
        """The formulas that the last deed made evaluate anew."""
        return self.last_anew

    def changed(self):
        """The cells whose value the last deed changed."""
        return self.last_changed

    def readers(self, sheet, row, column):
        """The formulas that read a cell."""
        check_cell(self.content, sheet, row, column)
        thing = ("cell", key_of(self.content, sheet), row, column)
        return told_places(self.content, self.solution.readers_of(thing))

    def circle(self, sheet, row, column):
        """The way of a cell with the value of circles, till it comes round."""
        check_cell(self.content, sheet, row, column)
        cells = self.solution.way_round((key_of(self.content, sheet), row, column))
        return tuple([told_places(self.content, [cell])[0] for cell in cells])

    def clear(self, sheet, row, column, height, width):
        """Empties an area."""
        content = clearing(self.content, sheet, row, column, height, width)
        self.do(content, call_of("clear", [sheet, row, column, height, width]))

    def copy(self, sheet, row, column, height, width, to_sheet, to_row, to_column):
        """Copies the cells of an area to another one."""
        source, target = (sheet, row, column, height, width), (to_sheet, to_row, to_column)
        self.do(copying(self.content, source, target), call_of("copy", [*source, *target]))

    def cut(self, sheet, row, column, height, width, to_sheet, to_row, to_column):
        """Takes the cells of an area to another one; all references follow."""
        source, target = (sheet, row, column, height, width), (to_sheet, to_row, to_column)
        self.do(cutting(self.content, source, target), call_of("cut", [*source, *target]))

    def fill_down(self, sheet, row, column, height, width):
        """Copies the first row of an area to the others."""
        told = (sheet, row, column, height, width)
        self.do(filling(self.content, told, True), call_of("fill_down", told))

    def fill_right(self, sheet, row, column, height, width):
        """Copies the first column of an area to the others."""
        told = (sheet, row, column, height, width)
        self.do(filling(self.content, told, False), call_of("fill_right", told))

    def sort_rows(self, sheet, row, column, height, width, key, falling):
        """Sorts the rows of an area by the values of one of its columns."""
        told = (sheet, row, column, height, width)
        content = sorting(self.solution, told, key, falling)
        self.do(content, call_of("sort_rows", [*told, key, falling]))

    def insert_rows(self, sheet, at, many):
        """Puts empty rows in ahead of a row."""
        told = (sheet, at, many)
        self.do(inserting(self.content, told, True), call_of("insert_rows", told))

    def insert_columns(self, sheet, at, many):
        """Puts empty columns in ahead of a column."""
        told = (sheet, at, many)
        self.do(inserting(self.content, told, False), call_of("insert_columns", told))

    def delete_rows(self, sheet, at, many):
        """Takes rows away."""
        told = (sheet, at, many)
        self.do(deleting(self.content, told, True), call_of("delete_rows", told))

    def delete_columns(self, sheet, at, many):
        """Takes columns away."""
        told = (sheet, at, many)
        self.do(deleting(self.content, told, False), call_of("delete_columns", told))

    def add_sheet(self, at, name):
        """Puts a new sheet into the row."""
        content = adding_sheet(self.content, at, name, self.next_key)
        self.next_key += 1
        self.do(content, call_with_name("add_sheet", [at], name))

    def drop_sheet(self, at):
        """Takes a sheet away."""
        self.do(dropping_sheet(self.content, at), call_of("drop_sheet", [at]))

    def rename_sheet(self, at, name):
        """Gives a sheet another name."""
        content = renaming_sheet(self.content, at, name)
        self.do(content, call_with_name("rename_sheet", [at], name))

    def move_sheet(self, at, to):
        """Puts a sheet at another place of the row."""
        self.do(moving_sheet(self.content, at, to), call_of("move_sheet", [at, to]))

    def undo(self):
        """Undoes the last step; tells whether there was one."""
        return self.turn(self.history.back(self.content), "undo")

    def redo(self):
        """Does the step again that was undone last; tells whether there was one."""
        return self.turn(self.history.forth(self.content), "redo")

    def undo_depth(self):
        """How many steps can be undone."""
        return len(self.history.past)

    def redo_depth(self):
        """How many steps can be done again."""
        return len(self.history.future)

    def begin(self):
        """Opens a group of deeds."""
        self.history.open_group(self.content)
        self.calls.note("begin")

    def commit(self):
        """Closes the group; its deeds are one step."""
        before = self.history.close_group()
        if self.history.deeds_of_group > 0:
            self.history.make_step(before)
        self.calls.note("commit")

    def abort(self):
        """Closes the group and makes all as it was ahead of it."""
        self.become(self.history.close_group())
        self.calls.note("abort")

    def journal(self):
        """The lines of all calls so far."""
        return "".join(self.calls.rows)

    def do(self, content, call):
        """Makes a content that of the workbook, as a deed with this call."""
        self.history.done(self.content)
        self.become(content)
        self.calls.note(call)

    def turn(self, content, call):
        """Makes a content of the history that of the workbook, if there is one."""
        if content is None:
            self.last_anew = ()
            self.last_changed = ()
        else:
            self.become(content)
        self.calls.note(call)
        return content is not None

    def start(self, content, next_key):
        """Makes a content that of the workbook, without a deed."""
        waved(self.solution, content, self.evaluate)
        self.content = content
        self.next_key = next_key

    def become(self, content):
        """Makes a content that of the workbook; tells what that made evaluate anew."""
        self.last_anew, self.last_changed = waved(self.solution, content, self.evaluate)
        self.content = content
