"""Signs of strings."""

LETTERS = "ABCDEFGHIJKLMNOPQRSTUVWXYZ"


def capital(text):
    """The capital form: a to z become capital letters, other signs stay."""
    # upper alone would change letters of other scripts, too.
    return "".join([sign.upper() if "a" <= sign <= "z" else sign for sign in text])


def small(text):
    """The text with A to Z as small letters; other signs stay."""
    return "".join([sign.lower() if "A" <= sign <= "Z" else sign for sign in text])


def is_figure(sign):
    """Whether a sign is one of 0 to 9; the empty string, too, is none."""
    return "0" <= sign <= "9"


def is_letter(sign):
    """Whether a sign is one of a to z or A to Z; the empty string is none."""
    return "A" <= sign <= "Z" or "a" <= sign <= "z"
