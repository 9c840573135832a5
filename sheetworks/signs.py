"""Signs of strings."""


def capital(text):
    """The capital form: a to z become capital letters, other signs stay."""
    # upper alone would change letters of other scripts, too.
    return "".join([sign.upper() if "a" <= sign <= "z" else sign for sign in text])
