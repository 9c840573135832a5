"""One evaluation: what it asks its world, and how far it may go.

What comes of a tree is a value, a reference ("area", key, top, left, bottom,
right) or a function ("function", words, body, the words bound where it was made).
"""

from sheetworks.values import MOST_MEMBERS, array

MOST_STEPS = 600
MOST_LEVELS = 36
NO_VALUE = ("error", "CALC")
TOO_GREAT = ("error", "SIZE")


class Unknown(Exception):
    """A cell was read that is not known yet."""


class Passed(Exception):
    """A limit of the evaluation was passed."""


class Working:
    """The steps of one evaluation, and what its world answered."""

    def __init__(self, world):
        self.world = world
        self.steps = 0
        self.answers = {}

    def step(self, many):
        """Counts steps ahead of what they stand for."""
        self.steps += many
        if self.steps > MOST_STEPS:
            raise Passed()

    def enter(self, level):
        """Counts a node that is evaluated at a level."""
        if level > MOST_LEVELS:
            raise Passed()
        self.step(1)

    def cell(self, key, row, column):
        """The value of a cell, read."""
        self.step(1)
        asked = ("cell", key, row, column)
        if asked not in self.answers:
            self.answers[asked] = self.world.cell(key, row, column)
        answer = self.answers[asked]
        if answer is None:
            raise Unknown()
        return answer

    def name(self, word):
        """The tree that a name stands for, or None."""
        asked = ("name", word)
        if asked not in self.answers:
            self.answers[asked] = self.world.name(word)
        return self.answers[asked]

    def sheet(self, word):
        """The key of the sheet with this name, or None."""
        asked = ("sheet", word)
        if asked not in self.answers:
            self.answers[asked] = self.world.sheet(word)
        return self.answers[asked]

    def reads(self):
        """What was asked, in the sequence of the first asking."""
        return tuple(self.answers)

    def taken(self, came):
        """The value of what came."""
        if came[0] == "function":
            return NO_VALUE
        if came[0] != "area":
            return came
        _, key, top, left, bottom, right = came
        h, w = bottom - top + 1, right - left + 1
        if h * w > MOST_MEMBERS:
            return TOO_GREAT
        found = []
        for row in range(top, bottom + 1):
            for column in range(left, right + 1):
                found.append(self.cell(key, row, column))
        return array(h, w, found)
