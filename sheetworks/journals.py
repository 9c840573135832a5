"""Journals replayed."""

from sheetworks.book import Book
from sheetworks.errors import BadJournal, WorkError
from sheetworks.lines import FIRST_CHECK, checked
from sheetworks.numbers import are_figures
from sheetworks.signs import capital

# For each call the kinds of its arguments: i an integer, b True or False as 1
# or 0, n a name, t a text.
KINDS = {
    "put": "iiit", "put_block": "iiiiit", "define": "nt", "undefine": "n", "clear": "iiiii",
    "copy": "iiiiiiii", "cut": "iiiiiiii", "fill_down": "iiiii", "fill_right": "iiiii",
    "sort_rows": "iiiiiib", "insert_rows": "iii", "insert_columns": "iii", "delete_rows": "iii",
    "delete_columns": "iii", "add_sheet": "in", "drop_sheet": "i", "rename_sheet": "in",
    "move_sheet": "ii", "undo": "", "redo": "", "begin": "", "commit": "", "abort": "",
}
# No integer of a call that is accepted has more figures.
MOST_FIGURES = 2


def replayed(text):
    """The workbook on which the calls of a journal were done."""
    book, many, is_whole = done_lines(text)
    if not is_whole:
        raise BadJournal(many + 1)
    return book


def rescued(text):
    """(book, many): the workbook of as many lines as can be done, and how many."""
    book, many, _ = done_lines(text)
    return (book, many)


def done_lines(text):
    """The workbook of the first lines that can be done, how many, and whether that is all."""
    book = Book()
    check = FIRST_CHECK
    many = 0
    # What stands behind the last line feed is no line.
    for line in text.split("\n")[:-1]:
        call = line.partition(" ")[2].partition(" ")[2]
        check = checked(check, call)
        if line != f"{many + 1} {check} {call}" or not is_done(book, call):
            return book, many, False
        many += 1
    return book, many, True


def is_done(book, call):
    """Whether a call could be done; otherwise nothing was changed."""
    word = call.partition(" ")[0]
    arguments = arguments_of(call[len(word):], KINDS[word]) if word in KINDS else None
    if arguments is None:
        return False
    deed = CALLS[word]
    try:
        deed(book, arguments)
    except WorkError:
        return False
    return True


def arguments_of(told, kinds):
    """The arguments of these kinds, or None; each has a blank ahead of it."""
    found = []
    rest = told
    for kind in kinds:
        if not rest.startswith(" "):
            return None
        part = rest[1:] if kind == "t" else rest[1:].partition(" ")[0]
        rest = rest[1 + len(part):]
        argument = argument_of(part, kind)
        if argument is None:
            return None
        found.append(argument)
    return found if rest == "" else None


def argument_of(part, kind):
    """An argument of a kind, or None if it is told otherwise than a journal tells it."""
    if kind == "t":
        return part
    if kind == "n":
        return part if capital(part) == part else None
    if not are_figures(part, MOST_FIGURES) or str(int(part)) != part:
        return None
    if kind == "i":
        return int(part)
    return part == "1" if part in ("0", "1") else None


def clear(book, a):
    """clear"""
    book.clear(a[0], a[1], a[2], a[3], a[4])


def copy(book, a):
    """copy"""
    book.copy(a[0], a[1], a[2], a[3], a[4], a[5], a[6], a[7])


def put(book, a):
    """put"""
    book.put(*a)


def put_block(book, a):
    """put_block"""
    book.put_block(*a)


def define(book, a):
    """define"""
    book.define(*a)


def undefine(book, a):
    """undefine"""
    book.undefine(*a)


def cut(book, a):
    """cut"""
    book.cut(*a)


def fill_down(book, a):
    """fill_down"""
    book.fill_down(*a)


def fill_right(book, a):
    """fill_right"""
    book.fill_right(*a)


def sort_rows(book, a):
    """sort_rows"""
    book.sort_rows(*a)


def insert_rows(book, a):
    """insert_rows"""
    book.insert_rows(*a)


def insert_columns(book, a):
    """insert_columns"""
    book.insert_columns(*a)


def delete_rows(book, a):
    """delete_rows"""
    book.delete_rows(*a)


def delete_columns(book, a):
    """delete_columns"""
    book.delete_columns(*a)


def add_sheet(book, a):
    """add_sheet"""
    book.add_sheet(*a)


def drop_sheet(book, a):
    """drop_sheet"""
    book.drop_sheet(*a)


def rename_sheet(book, a):
    """rename_sheet"""
    book.rename_sheet(*a)


def move_sheet(book, a):
    """move_sheet"""
    book.move_sheet(*a)


def undo(book, _):
    """undo"""
    book.undo()


def redo(book, _):
    """redo"""
    book.redo()


def begin(book, _):
    """begin"""
    book.begin()


def commit(book, _):
    """commit"""
    book.commit()


def abort(book, _):
    """abort"""
    book.abort()


CALLS = {
    "put": put, "put_block": put_block, "define": define, "undefine": undefine, "clear": clear,
    "copy": copy, "cut": cut, "fill_down": fill_down, "fill_right": fill_right,
    "sort_rows": sort_rows, "insert_rows": insert_rows, "insert_columns": insert_columns,
    "delete_rows": delete_rows, "delete_columns": delete_columns, "add_sheet": add_sheet,
    "drop_sheet": drop_sheet, "rename_sheet": rename_sheet, "move_sheet": move_sheet,
    "undo": undo, "redo": redo, "begin": begin, "commit": commit, "abort": abort,
}
