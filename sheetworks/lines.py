"""The lines of journals, and the checks of these and of saved workbooks."""

from sheetworks.signs import capital

FIRST_CHECK = 7
FACTOR = 257
MODULUS = 2147483647


def checked(check, text):
    """The check that goes on over the signs of a text."""
    for sign in text:
        check = (check * FACTOR + ord(sign)) % MODULUS
    return check


def told_argument(argument):
    """An argument as it stands in a line; True and False as 1 and 0."""
    if argument is True:
        return "1"
    if argument is False:
        return "0"
    return str(argument)


def call_of(word, arguments):
    """The call of a method, with one blank ahead of each argument."""
    return word + "".join([" " + told_argument(argument) for argument in arguments])


def call_with_name(word, arguments, name):
    """A call whose last arguments are integers and a name, told in capital form."""
    return call_of(word, [*arguments, capital(name)])


class Journal:
    """The lines of all calls so far."""

    def __init__(self):
        self.rows = []
        self.check = FIRST_CHECK

    def note(self, call):
        """Adds the line of a call."""
        self.check = checked(self.check, call)
        self.rows.append(f"{len(self.rows) + 1} {self.check} {call}\n")
