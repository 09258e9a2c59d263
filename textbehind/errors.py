"""The errors of the package, each directly under BehindError."""


class BehindError(ValueError):
    """What every error of the package is."""

    def __init__(self, text):
        # Python keeps what an error is created with; so the base gets the text alone, never a list of the caller's.
        ValueError.__init__(self, text)
        self.text = text


class InvalidText(BehindError):
    """No list of integers from 0 on."""


class InvalidSize(BehindError):
    """No number of letters."""


class InvalidManner(BehindError):
    """None of the three manners."""


class InvalidWord(BehindError):
    """None of the words that are asked for."""


class InvalidEntry(BehindError):
    """No entry of a text of this length."""


class InvalidThing(BehindError):
    """No told thing of a text of this length."""


class InvalidThings(BehindError):
    """No list of told things, or not of the kind that is asked for."""


class InvalidRow(BehindError):
    """No row of values of the asked form."""


class InvalidPlace(BehindError):
    """No place of the text."""


class InvalidCount(BehindError):
    """No number of the asked size."""


class Impossible(BehindError):
    """No text has the list."""


class NothingToUndo(BehindError):
    """A sheet without things is asked to take one back."""


class Unreadable(BehindError):
    """No text in words of the asked form."""


class InvalidCommand(BehindError):
    """No command of the console."""


class NotReady(BehindError):
    """A console without a sheet is asked for what needs one."""


class WrongRow(BehindError):
    """A row that no text has: up to the value at the index, it included."""

    def __init__(self, index):
        BehindError.__init__(self, f"no text has the values up to index {index}")
        self.index = index


class Contradiction(BehindError):
    """Things that are impossible together, told by their indexes."""

    def __init__(self, indexes):
        BehindError.__init__(self, f"the things {indexes} are impossible together")
        self.indexes = list(indexes)


class Needless(BehindError):
    """A thing that follows from those that are there."""

    def __init__(self, thing):
        BehindError.__init__(self, f"the thing {thing} follows already")
        self.thing = thing
