"""Objects that are not as described, by the parameter in whose place they stand; the size is 4 where one is told."""

from textbehind import errors


class Same:
    """An object that says that it equals everything."""

    def __eq__(self, other):
        return True

    def __hash__(self):
        return hash("wrong")


class Never:
    """An object that cannot be compared."""

    def __eq__(self, other):
        raise RuntimeError("compared")

    __hash__ = None


NO_COUNTS = [None, True, False, -1, -10 ** 20, "", "4", b"4", [], [4], (4,), {}, {4: 4}, {4}, object(), int, len,
             Same(), Never()]
NO_WORDS = [None, True, 0, 1, "", "Letters", "letters ", "sideways", b"letters", b"front", ["letters"], ["front"],
            ("names",), ("odd",), {"order": 1}, {"even"}, object(), [[["names"]]], Same(), Never()]
NESTED = [[[[]]], ((((),),),), {"a": [{"b": ((None,),)}]}, [("letters",), [("names", [()])]]]

NO_TEXTS = [None, True, 0, 7, "", "0101", b"01", (), (0, 1, 0, 1), {}, {0: 1}, {0, 1}, range(4), object(), [True],
            [0, 1, False, 1], [0, -1, 0, 0], [0, "1", 0, 0], [None], [[0], 1, 1, 1], [(0,)], [b"0"], ["0"],
            [Same()], [Never()]] + NESTED

NO_MANNERS = NO_WORDS + ["front", "pair", "mirrors", "is", "least"]
NO_TABLE_WORDS = NO_WORDS + ["letters", "names", "order", "mirror", "Front", "is", "most"]

NO_ENTRIES = [None, True, 0, "", "front", ("front",), (), [], ["front", 1], ["pair", 0, 1], ("front", 0), ("front", 4),
              ("front", True), ("front", -1), ("front", "1"), ("front", None), ("front", 1, 2), ("front", (1,)),
              ("back", 3), ("back", -1), ("back", False), ("back", 0, 1), ("odd", 4), ("odd", -1), ("odd", True),
              ("odd",), ("even", 0), ("even", 4), ("even", True), ("even", 1, 1), ("pair", 0), ("pair", 1, 1),
              ("pair", 2, 1), ("pair", 0, 4), ("pair", -1, 2), ("pair", False, 1), ("pair", 0, True),
              ("pair", 0, 1, 2), ("pair", (0, 1)), ("pair", [0, 1]), ("mirrors", 1), ("Front", 1), ("", 1), (1, 1),
              (None, 1), (b"front", 1), (("front", 1),), (["front"], 1), {"front": 1}, b"front", object(),
              Same(), Never(), (Same(), 1), (Same(), 0, 1), (Never(), 1), ("front", Same()), ("odd", Never())] + NESTED

GOOD = ("letters", ("front", 1), "is", 2)
NO_THINGS = [None, True, 3, "", "letters front 1 is 2", (), [], GOOD[:3], GOOD + (0,), list(GOOD), (GOOD,), [GOOD],
             ("letters", ["front", 1], "is", 2), ("letter", ("front", 1), "is", 2), (None, ("front", 1), "is", 2),
             (["letters"], ("front", 1), "is", 2), (("letters",), ("front", 1), "is", 2),
             (0, ("front", 1), "is", 2), ("letters", ("front", 1), "Is", 2), ("letters", ("front", 1), None, 2),
             ("letters", ("front", 1), ["is"], 2), ("letters", ("front", 1), ("least",), 2),
             ("letters", ("front", 1), "at most", 2), ("letters", ("front", 1), "is", 4),
             ("letters", ("front", 1), "least", 4), ("letters", ("front", 1), "most", 10 ** 30),
             ("names", ("front", 3), "is", 2), ("order", ("odd", 0), "least", 1), ("order", ("odd", 3), "most", 1),
             ("letters", ("even", 3), "is", 2), ("letters", ("back", 0), "is", 2), ("names", ("pair", 1, 2), "is", 3),
             ("letters", ("front", 1), "is", -1), ("letters", ("front", 1), "is", True),
             ("letters", ("front", 1), "least", False), ("letters", ("front", 1), "most", None),
             ("letters", ("front", 1), "is", "2"), ("letters", ("front", 1), "is", [2]),
             ("letters", ("front", 1), "is", (2,)), {"letters": GOOD}, b"letters", object(),
             Same(), Never(), (Same(),) + GOOD[1:], (Never(),) + GOOD[1:], GOOD[:2] + (Same(), 2),
             GOOD[:3] + (Same(),), GOOD[:3] + (Never(),)] + NESTED
NO_THINGS += [("names", entry, "least", 0) for entry in NO_ENTRIES]

NO_LISTS = [None, True, 0, "", "letters front 1 is 2", b"", (), (GOOD,), GOOD, {}, {GOOD}, {GOOD: 1}, range(0),
            object()] + [[thing] for thing in NO_THINGS] + [[GOOD, thing, GOOD] for thing in NO_THINGS]

# The row is one of fronts in a text of 4 letters: three values, with the rooms 3, 2 and 1.
NO_ROWS = [None, True, 0, "", "000", (), (0, 0, 0), {}, {0: 0}, range(3), object(), [], [0], [0, 0], [0, 0, 0, 0],
           [0, 0, 0, None], [4, 0, 0], [0, 3, 0], [0, 0, 2], [0, 0, -1], [True, 0, 0], [0, False, 0], ["0", 0, 0],
           [0, [0], 0], [0, (0,), 0], [0, 0, "?"], [b"", 0, 0], [[0, 0, 0]], [None, None, 2], [3, 2, 10 ** 30]] + NESTED

WRONG = {
    "text": (errors.InvalidText, NO_TEXTS),
    "size": (errors.InvalidSize, NO_COUNTS),
    "manner": (errors.InvalidManner, NO_MANNERS),
    "word": (errors.InvalidWord, NO_TABLE_WORDS),
    "entry": (errors.InvalidEntry, NO_ENTRIES),
    "thing": (errors.InvalidThing, NO_THINGS),
    "things": (errors.InvalidThings, NO_LISTS),
    "other": (errors.InvalidThings, NO_LISTS),
    "row": (errors.InvalidRow, NO_ROWS),
}

NO_NUMBERS = NO_COUNTS + NESTED
NO_LIMITS = [value for value in NO_NUMBERS if value is not None]
WRONG["count"] = (errors.InvalidCount, NO_NUMBERS)
WRONG["most"] = (errors.InvalidCount, NO_LIMITS)

NO_ROW_AT_ALL = [None, True, 0, 7, "", "000", b"", b"000", (), (0, 0, 0), {}, {0: 0}, {0}, range(3), object(),
                 [[0, 0, 0]], [None], ["0"], [(0,)], [[]], [True], [False], [-1], [b"0"], [{}], [object()],
                 Same(), Never(), [Same()], [Never()]] + NESTED
NO_COMPLETE_WORDS = NO_TABLE_WORDS + ["pair"]


def spoilt_rows(row, greatest):
    """The row with a wrong value, in each of its places; greatest: the greatest values that are right there."""
    wrong = [None, True, False, -1, -10 ** 30, "0", "", b"0", [0], (0,), [], {}, 10 ** 30, object(), [[0]]]
    return [row[:at] + [value] + row[at + 1:] for at in range(len(row)) for value in wrong + [greatest[at] + 1]]

NO_WORD_LISTS = [None, True, 0, 7, "", "front", b"front", (), ("front",), {}, {"front": 1}, {"front"}, range(0),
                 object(), Same(), Never(), ["front", "front"], ["odd", "even", "mirrors", "odd"],
                 ["mirrors", "mirrors"], [["front"]], [("front",)], ["front", "pair", "letters"],
                 ["front", Same(), "front"], ["front", Never()]] + NESTED
NO_WORD_LISTS += [["pair", word] for word in NO_TABLE_WORDS] + [[word, "back"] for word in NO_TABLE_WORDS]
WRONG["words"] = (errors.InvalidWord, NO_WORD_LISTS)

# No texts at all, for texts in words and for commands.
NO_STRINGS = [None, True, False, 0, 7, -1, b"", b"back", b"letters front 1 is 2", b"1 2", [], [""], ["back"], (),
              ("text", 4), {}, {"back": 1}, {"back"}, object(), str, Same(), Never(), GOOD, [GOOD], [1, None]] + NESTED
