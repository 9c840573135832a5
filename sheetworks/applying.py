"""How a node's own trees are evaluated, and how functions are called."""

from sheetworks.numbers import SCALE
from sheetworks.values import EMPTY, as_number, as_text, as_truth, as_whole
from sheetworks.working import NO_VALUE

WRONG = ("error", "VALUE")


class Early(Exception):
    """A library function's result that stands ahead of its other arguments."""

    def __init__(self, result):
        self.result = result


def settled(v):
    """The scalar itself; an error is the library function's result at once."""
    if v[0] == "error":
        raise Early(v)
    return v


def wanted(kind, came):
    """What came, which has to be of this kind; otherwise there is a result at once."""
    settled(came)
    if came[0] != kind:
        raise Early(WRONG)
    return came


class Call:
    """The node that is worked out: the words bound there, and the level of its trees."""

    def __init__(self, evaluation, bound, level):
        self.evaluation = evaluation
        self.working = evaluation.working
        self.own = evaluation.own
        self.bound = bound
        self.level = level

    def came(self, tree):
        """What comes of one of the node's trees."""
        return self.evaluation.came(tree, self.bound, self.level)

    def applied(self, function, arguments):
        """What comes of a function with these arguments."""
        _, words, body, brought = function
        if len(words) != len(arguments):
            return WRONG
        bound = dict(brought)
        for word, argument in zip(words, arguments):
            bound[word] = argument
        return self.evaluation.came(body, bound, self.level)

    def applied_value(self, function, arguments):
        """The value of what comes of a function."""
        return self.working.taken(self.applied(function, arguments))

    def what_came(self, tree):
        """A reference, unread, or a value."""
        came = self.came(tree)
        if came[0] == "function":
            return NO_VALUE
        return came

    def value(self, tree):
        """A V argument."""
        return self.working.taken(self.came(tree))

    def sound_value(self, tree):
        """A V argument of which an error scalar is the result at once."""
        return settled(self.value(tree))

    def scalar(self, tree):
        """An S argument that may be an error."""
        v = self.value(tree)
        if v[0] == "array":
            return WRONG
        return v

    def sound_scalar(self, tree):
        """An S argument."""
        return settled(self.scalar(tree))

    def number(self, tree):
        """The amount of an S argument that is a number."""
        return settled(as_number(self.scalar(tree)))[1]

    def whole(self, tree):
        """The integer of an S argument that is a whole number."""
        return settled(as_whole(self.scalar(tree)))[1] // SCALE

    def text(self, tree):
        """The string of an S argument that is a text."""
        return settled(as_text(self.scalar(tree)))[1]

    def truth(self, tree):
        """True or False of an S argument that is a truth value."""
        return settled(as_truth(self.scalar(tree)))[1]

    def reference(self, tree):
        """An R argument."""
        return wanted("area", self.what_came(tree))

    def function(self, tree):
        """An F argument."""
        return wanted("function", self.came(tree))

    def whole_or(self, trees, at, otherwise):
        """The integer of an S argument that may be left out."""
        return self.whole(trees[at]) if at < len(trees) else otherwise

    def given(self, trees, at):
        """Whether an argument is given that counts as left out if it is missing.

        One that is missing is evaluated like others.
        """
        if at >= len(trees):
            return False
        if trees[at] == EMPTY:
            self.came(trees[at])
            return False
        return True
