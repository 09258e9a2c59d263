"""Sheets: lists of told things that are possible at any time."""

from textbehind.checks import check_size, check_thing
from textbehind.errors import Contradiction, Needless, NothingToUndo
from textbehind.kinds import can_stand, first_clash, surely_has
from textbehind.letters import plainest
from textbehind.lists import can_be, follows


def check_addition(size, things, thing):
    """The checks of a thing that is to stand behind a possible list: its form, and that both are possible together."""
    check_thing(size, thing)
    longer = things + [thing]
    if not can_stand(size, longer):
        raise Contradiction(first_clash(size, longer))


class Sheet:
    """Told things of one length that are possible together."""

    def __init__(self, size):
        check_size(size)
        self.size = size
        self._told = []

    def __call__(self, thing):
        """Adds a thing and returns the number of things."""
        check_addition(self.size, self._told, thing)
        self._told.append(thing)
        return len(self._told)

    @property
    def things(self):
        """The list of the things."""
        return list(self._told)

    def can_be(self, manner, entry):
        """The values that the entry can be in the manner, ascending."""
        return can_be(self.size, self._told, manner, entry)

    def follows(self, thing):
        """Whether every text that has the things has this one."""
        return follows(self.size, self._told, thing)

    def plainest(self):
        """The first text of those that have the things with the fewest letters."""
        return plainest(self.size, self._told)

    def undo(self):
        """Takes back the last thing."""
        if len(self._told) == 0:
            raise NothingToUndo("the sheet has no things")
        self._told.pop()

    def __len__(self):
        return len(self._told)

    def __eq__(self, other):
        if not isinstance(other, Sheet) or isinstance(other, LeanSheet):
            return False
        return self.size == other.size and self._told == other._told


class LeanSheet(Sheet):
    """A sheet that takes no thing that follows from those that are there."""

    def __init__(self, size):
        Sheet.__init__(self, size)

    def __call__(self, thing):
        """Adds a thing that does not follow yet and returns the number of things."""
        check_addition(self.size, self._told, thing)
        if surely_has(self.size, self._told, thing):
            raise Needless(thing)
        self._told.append(thing)
        return len(self._told)

    def __eq__(self, other):
        if not isinstance(other, LeanSheet):
            return False
        return self.size == other.size and self._told == other._told
