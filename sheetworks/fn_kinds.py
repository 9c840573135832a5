"""Library functions that tell what something is."""

from sheetworks.applying import settled
from sheetworks.came import height_of, width_of
from sheetworks.fn_choices import is_error, is_not_there
from sheetworks.numbers import SCALE
from sheetworks.values import ERRORS, number_of


def is_blank(v):
    """ISBLANK"""
    return ("truth", v[0] == "empty")


def is_number(v):
    """ISNUMBER"""
    return ("truth", v[0] == "number")


def is_text(v):
    """ISTEXT"""
    return ("truth", v[0] == "text")


def is_logical(v):
    """ISLOGICAL"""
    return ("truth", v[0] == "truth")


def is_any_error(v):
    """ISERROR"""
    return ("truth", is_error(v))


def is_error_of_lack(v):
    """ISNA"""
    return ("truth", is_not_there(v))


def error_number(v):
    """ERRNUMBER"""
    if v[0] != "error":
        return number_of("NA")
    return number_of((1 + ERRORS.index(v[1])) * SCALE)


def is_reference(call, trees):
    """ISREF"""
    return ("truth", call.came(trees[0])[0] == "area")


def lack(_, trees):
    """NA"""
    return number_of("NA")


def first_row(call, trees):
    """ROW"""
    return number_of((1 + call.reference(trees[0])[2]) * SCALE)


def first_column(call, trees):
    """COLUMN"""
    return number_of((1 + call.reference(trees[0])[3]) * SCALE)


def many_rows(call, trees):
    """ROWS"""
    return number_of(height_of(settled(call.what_came(trees[0]))) * SCALE)


def many_columns(call, trees):
    """COLUMNS"""
    return number_of(width_of(settled(call.what_came(trees[0]))) * SCALE)


KIND_DEEDS = {
    "ISBLANK": is_blank, "ISNUMBER": is_number, "ISTEXT": is_text, "ISLOGICAL": is_logical,
    "ISERROR": is_any_error, "ISNA": is_error_of_lack, "ERRNUMBER": error_number,
}
KIND_CALLS = {
    "ISREF": is_reference, "NA": lack, "ROW": first_row, "COLUMN": first_column,
    "ROWS": many_rows, "COLUMNS": many_columns,
}
