"""The errors that a workbook raises.

Each class stands directly under WorkError, so that a caller can catch one
kind of failure alone, or all of them at once.
"""


class WorkError(Exception):
    """What all errors of the workbook have in common."""


class BadPlace(WorkError):
    """A sheet, row, column, count or number that is out of its range."""

    def __init__(self, at):
        self.at = at


class BadText(WorkError):
    """A text that can not be put."""

    def __init__(self, at):
        self.at = at


class Fault(WorkError):
    """A formula that can not be read."""

    def __init__(self, at):
        self.at = at


class BadName(WorkError):
    """A name that can not be used."""

    def __init__(self, name):
        self.name = name


class BlockCut(WorkError):
    """A block would be cut; it begins at this place."""

    def __init__(self, sheet, row, column):
        self.sheet = sheet
        self.row = row
        self.column = column


class NoRoom(WorkError):
    """There is no room for what the word tells."""

    def __init__(self, word):
        self.word = word


class NothingThere(WorkError):
    """There is nothing of what the word tells."""

    def __init__(self, word):
        self.word = word


class BadJournal(WorkError):
    """A journal, or a saved workbook, that can not be read."""

    def __init__(self, at):
        self.at = at
