"""Names: of sheets, and of what formulas call by a name."""

from sheetworks.library import COUNTS
from sheetworks.signs import capital, is_figure, is_letter
from sheetworks.tokens import cell_end

MOST_SIGNS_OF_NAME = 8
WORDS_OF_THEIR_OWN = ("TRUE", "FALSE", "LET", "LAMBDA")


def is_name(text):
    """Whether any string, in any letters, is a name."""
    if len(text) > MOST_SIGNS_OF_NAME or not is_letter(text[:1]):
        return False
    for sign in text:
        if not (is_letter(sign) or is_figure(sign) or sign == "_"):
            return False
    upper = capital(text)
    if upper in WORDS_OF_THEIR_OWN or upper in COUNTS:
        return False
    return cell_end(upper, 0) != len(upper)
