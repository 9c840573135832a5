"""Steps that can be undone and done again, and groups of deeds."""

from sheetworks.errors import NoRoom, NothingThere

MOST_STEPS_BACK = 40


class History:
    """The contents ahead of the steps that can be undone, and behind those undone."""

    def __init__(self):
        self.past = []
        self.future = []
        # While a group is open, the content ahead of it and how many deeds it has.
        self.ahead_of_group = None
        self.deeds_of_group = 0

    def done(self, before):
        """A deed was done; before is the content ahead of it."""
        self.future = []
        if self.ahead_of_group is None:
            self.make_step(before)
        else:
            self.deeds_of_group += 1

    def make_step(self, before):
        """A step was made; the oldest one of too many is forgotten."""
        self.past.append(before)
        self.past = self.past[-MOST_STEPS_BACK:]

    def open_group(self, content):
        """Opens a group."""
        self.refuse_group()
        self.ahead_of_group = content
        self.deeds_of_group = 0

    def close_group(self):
        """Closes the group; tells the content ahead of it."""
        if self.ahead_of_group is None:
            raise NothingThere("group")
        before = self.ahead_of_group
        self.ahead_of_group = None
        return before

    def refuse_group(self):
        """Raises NoRoom while a group is open."""
        if self.ahead_of_group is not None:
            raise NoRoom("group")

    def back(self, content):
        """The content ahead of the last step, or None; content is the one of now."""
        self.refuse_group()
        if not self.past:
            return None
        self.future.append(content)
        return self.past.pop()

    def forth(self, content):
        """The content behind the step that was undone last, or None."""
        self.refuse_group()
        if not self.future:
            return None
        self.past.append(content)
        return self.future.pop()
