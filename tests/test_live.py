"""[8], [10], [11], [13], [20], [22] and the heading textbehind/live.py: sheets and lean sheets."""

import random
import unittest

from tests import counting, plainly
from tests.cases import Calls, some_list, some_thing
from tests.saying import PlainSheet
from tests.wrongs import GOOD, NO_COUNTS, NO_THINGS, WRONG, Same
from textbehind import errors
from textbehind.letters import plainest
from textbehind.lists import can_be, clashes, follows, is_possible
from textbehind.live import LeanSheet, Sheet

PAIR, MIRROR = ("letters", ("pair", 0, 2), "least", 2), ("letters", ("even", 2), "is", 1)
SAYS_NOTHING = [(manner, ("odd", 0), "is", 0) for manner in plainly.MANNERS]
SHEETS = (Sheet, LeanSheet)


def outcome(deed):
    """What a deed returns, or the name and the fields of its error."""
    try:
        return deed()
    except errors.Contradiction as error:
        return ("Contradiction", error.indexes)
    except errors.Needless as error:
        return ("Needless", error.thing)
    except errors.BehindError as error:
        return (type(error).__name__,)


def sheet_of(kind, size, things):
    """A sheet that is told these things one after the other."""
    sheet = kind(size)
    for thing in things:
        sheet(thing)
    return sheet


def drawn_thing(chance, size, manners):
    """A thing, most often one that is true of one of two texts, so that lists stay possible for a while."""
    text = chance.choice([[0, 1, 0, 0, 1, 0, 1], [0, 0, 0, 0, 0, 0, 0], [0, 1, 2, 3, 2, 1, 0]])[:size]
    thing = some_thing(chance, text, chance.choice(manners), chance.choice(plainly.ENTRY_WORDS), chance.random() < 0.8)
    return chance.choice(SAYS_NOTHING) if thing is None else thing


class ExampleTest(unittest.TestCase):
    def test_the_rows_of_the_interface(self):
        sheet = LeanSheet(4)
        self.assertEqual(sheet(PAIR), 1)
        self.assertEqual(sheet.can_be("letters", ("even", 2)), [0, 2])
        self.assertEqual(sheet(("letters", ("even", 1), "is", 0)), 2)
        self.assertEqual(sheet.plainest(), [0, 1, 0, 1])
        self.assertIs(sheet.follows(("letters", ("odd", 2), "is", 1)), True)
        self.assertEqual(len(sheet), 2)


class DeedsTest(unittest.TestCase):
    def check_state(self, sheet, plain):
        self.assertEqual([sheet.size, sheet.things, len(sheet)], [plain.size, plain.things, len(plain.things)])

    def check_answers(self, sheet, plain, chance):
        size, things = plain.size, plain.things
        self.assertEqual(sheet.plainest(), counting.plainest(size, things))
        for manner in plainly.MANNERS:
            for word in chance.sample(plainly.ENTRY_WORDS, 2):
                entries = plainly.entries(size, word)
                for entry in chance.sample(entries, min(len(entries), 2)):
                    self.assertEqual(sheet.can_be(manner, entry), plainly.can_be(size, things, manner, entry))
            thing = drawn_thing(chance, size, [manner])
            self.assertIs(sheet.follows(thing), plainly.follows(size, things, thing))
        self.check_state(sheet, plain)

    def test_deed_by_deed_held_against_all_texts(self):
        for kind in SHEETS:
            for manners in [[manner] for manner in plainly.MANNERS] + [["letters", "names"], list(plainly.MANNERS)]:
                for size in (1, 2, 3, 4, 5):
                    self.check_deeds(kind, size, manners, random.Random(f"{kind.__name__} {manners} {size}"))

    def check_deeds(self, kind, size, manners, chance):
        sheet, plain = kind(size), PlainSheet(size, kind is LeanSheet)
        for turn in range(24):
            if len(plain.things) == 8 or chance.random() < 0.2:
                self.assertEqual(outcome(sheet.undo), plain.undo())
            else:
                thing = drawn_thing(chance, size, manners)
                self.assertEqual(outcome(lambda: sheet(thing)), plain.tell(thing), (plain.things, thing))
            self.check_state(sheet, plain)
            if turn % 6 == 0:
                self.check_answers(sheet, plain, chance)

    def test_deed_by_deed_held_against_the_functions(self):
        chance = random.Random("functions")
        for kind in SHEETS:
            for turn in range(30):
                sheet, told = kind(12), []
                for thing in some_list(chance, 12, ["letters"], plainly.ENTRY_WORDS, 8, truth=0.8):
                    self.check_telling(sheet, told, thing)
                    self.assertEqual([sheet.things, len(sheet), sheet.size], [told, len(told), 12])
                    self.assertEqual(sheet.plainest(), plainest(12, told))
                    entry = chance.choice(plainly.entries(12, chance.choice(plainly.ENTRY_WORDS)))
                    self.assertEqual(sheet.can_be("letters", entry), can_be(12, told, "letters", entry))
                    self.assertIs(sheet.follows(thing), follows(12, told, thing))

    def check_telling(self, sheet, told, thing):
        if not is_possible(12, told + [thing]):
            self.assertEqual(outcome(lambda: sheet(thing)), ("Contradiction", clashes(12, told + [thing])[0]))
        elif type(sheet) is LeanSheet and follows(12, told, thing):
            self.assertEqual(outcome(lambda: sheet(thing)), ("Needless", thing))
        else:
            told.append(thing)
            self.assertEqual(sheet(thing), len(told))


class ContradictionTest(unittest.TestCase):
    def test_the_first_of_all_clashes(self):
        told = [("letters", ("front", 1), "least", 1), ("letters", ("pair", 0, 1), "least", 1),
                ("letters", ("pair", 1, 2), "least", 1), ("letters", ("pair", 0, 2), "least", 1)]
        for kind in SHEETS:
            for things, thing, first in [
                    (told[1:3], ("letters", ("pair", 0, 2), "is", 0), [0, 1, 2]),
                    ([told[1], told[2]], ("letters", ("pair", 0, 1), "most", 0), [0, 2]),
                    ([], ("names", ("pair", 0, 1), "is", 0), [0]),
                    ([told[2]], ("order", ("even", 1), "most", 0), [1])]:
                sheet = sheet_of(kind, 4, things)
                self.assertEqual(outcome(lambda: sheet(thing)), ("Contradiction", first))
                self.assertEqual(sheet.things, things)
        sheet = sheet_of(Sheet, 4, told)
        self.assertEqual(outcome(lambda: sheet(("letters", ("pair", 0, 1), "most", 0))), ("Contradiction", [0, 4]))
        self.assertEqual(outcome(lambda: sheet(("letters", ("pair", 0, 2), "is", 0))), ("Contradiction", [3, 4]))

    def test_the_field_is_a_new_list(self):
        sheet = sheet_of(Sheet, 4, [PAIR])
        found = []
        for _ in range(2):
            with self.assertRaises(errors.Contradiction) as caught:
                sheet(MIRROR)
            self.assertEqual(caught.exception.indexes, [0, 1])
            caught.exception.indexes.append("spoilt")
            found.append(caught.exception)
        self.assertIsNot(found[0].indexes, found[1].indexes)
        self.assertEqual([sheet.things, len(sheet)], [[PAIR], 1])


class NeedlessTest(unittest.TestCase):
    def test_what_follows_is_refused_by_lean_sheets_alone(self):
        follow = [PAIR, ("letters", ("pair", 0, 2), "is", 2), ("letters", ("back", 1), "is", 2),
                  ("letters", ("odd", 1), "least", 1), ("names", ("pair", 0, 2), "is", 2)] + SAYS_NOTHING
        for thing in follow:
            lean = sheet_of(LeanSheet, 4, [PAIR])
            with self.assertRaises(errors.Needless) as caught:
                lean(thing)
            self.assertEqual(caught.exception.thing, thing)
            self.assertIs(type(caught.exception), errors.Needless)
            self.assertEqual([lean.things, len(lean)], [[PAIR], 1])
            self.assertEqual(sheet_of(Sheet, 4, [PAIR, thing]).things, [PAIR, thing])

    def test_what_says_nothing_follows_from_no_things(self):
        for thing in SAYS_NOTHING:
            lean = LeanSheet(4)
            self.assertEqual(outcome(lambda: lean(thing)), ("Needless", thing))
            self.assertEqual([lean.things, Sheet(4)(thing)], [[], 1])

    def test_contradictions_come_first(self):
        lean = sheet_of(LeanSheet, 4, [PAIR])
        self.assertEqual(outcome(lambda: lean(MIRROR)), ("Contradiction", [0, 1]))
        self.assertEqual(outcome(lambda: lean(("names", ("even", 1), "is", 0))), ("Contradiction", [1]))

    def test_a_lean_sheet_is_thin(self):
        chance = random.Random("lean")
        for size in (3, 4, 5):
            for manner in plainly.MANNERS:
                lean = LeanSheet(size)
                for _ in range(12):
                    if len(lean) < 8:
                        outcome(lambda: lean(drawn_thing(chance, size, [manner, "letters"])))
                things = lean.things
                for at, thing in enumerate(things):
                    self.assertFalse(plainly.follows(size, things[:at], thing))


class UndoTest(unittest.TestCase):
    def test_it_takes_back_the_last_thing(self):
        for kind in SHEETS:
            sheet = sheet_of(kind, 4, [PAIR, ("letters", ("even", 1), "is", 0)])
            self.assertIsNone(sheet.undo())
            self.assertEqual([sheet.things, len(sheet)], [[PAIR], 1])
            self.assertEqual(outcome(lambda: sheet(MIRROR)), ("Contradiction", [0, 1]))
            self.assertIsNone(sheet.undo())
            self.assertEqual([sheet(MIRROR), sheet.things], [1, [MIRROR]])

    def test_a_thing_may_be_told_again(self):
        for kind in SHEETS:
            sheet = sheet_of(kind, 4, [PAIR])
            for _ in range(3):
                sheet.undo()
                self.assertEqual([sheet(PAIR), sheet.things], [1, [PAIR]])

    def test_nothing_to_undo(self):
        for kind in SHEETS:
            for size in (0, 1, 4):
                sheet = kind(size)
                for _ in range(2):
                    with self.assertRaises(errors.NothingToUndo) as caught:
                        sheet.undo()
                    self.assertIs(type(caught.exception), errors.NothingToUndo)
                    self.assertIsInstance(caught.exception, (errors.BehindError, ValueError))
            sheet = sheet_of(kind, 4, [PAIR])
            sheet.undo()
            self.assertEqual([outcome(sheet.undo), len(sheet), sheet.things], [("NothingToUndo",), 0, []])


class EqualTest(unittest.TestCase):
    def test_equal_sizes_and_lists(self):
        for kind in SHEETS:
            for things in ([], [PAIR], [PAIR, ("letters", ("even", 1), "is", 0)]):
                one, other = sheet_of(kind, 4, things), sheet_of(kind, 4, things)
                self.assertIs(one == other, True)
                self.assertIs(one != other, False)
                self.assertIs(one == one, True)

    def test_other_sizes_and_lists(self):
        for kind in SHEETS:
            even = ("letters", ("even", 1), "is", 0)
            sheets = [kind(4), kind(5), sheet_of(kind, 4, [PAIR]), sheet_of(kind, 5, [PAIR]), sheet_of(kind, 4, [even]),
                      sheet_of(kind, 4, [PAIR, even]), sheet_of(kind, 4, [even, PAIR]), kind(0)]
            for at, one in enumerate(sheets):
                for other_at, other in enumerate(sheets):
                    self.assertIs(one == other, at == other_at)
                    self.assertIs(one != other, at != other_at)

    def test_they_are_equal_again_behind_undo(self):
        for kind in SHEETS:
            one, other = sheet_of(kind, 4, [PAIR]), kind(4)
            self.assertFalse(one == other)
            one.undo()
            self.assertTrue(one == other)

    def test_a_sheet_and_a_lean_sheet(self):
        self.assertTrue(issubclass(LeanSheet, Sheet))
        for things in ([], [PAIR]):
            sheet, lean = sheet_of(Sheet, 4, things), sheet_of(LeanSheet, 4, things)
            self.assertIs(sheet == lean, False)
            self.assertIs(lean == sheet, False)
            self.assertIs(sheet != lean, True)
            self.assertIs(lean != sheet, True)
            self.assertIs(Sheet.__eq__(sheet, lean), False)

    def test_a_sheet_equals_nothing_else(self):
        for kind in SHEETS:
            sheet = sheet_of(kind, 4, [PAIR])
            for other in (None, 4, 0, True, "", [], [PAIR], (4, [PAIR]), {}, object(), Same(), Sheet, LeanSheet):
                self.assertIs(sheet == other, False)
                self.assertIs(sheet != other, True)
            self.assertIs([PAIR] == sheet, False)
            self.assertIs(None != sheet, True)


class LengthsTest(unittest.TestCase):
    def test_no_letters(self):
        for kind in SHEETS:
            sheet = kind(0)
            self.assertEqual([sheet.size, sheet.things, len(sheet), sheet.plainest()], [0, [], 0, []])
            for entry in (("odd", 0), ("front", 1), ("pair", 0, 1), ("back", 0), ("even", 1)):
                self.assertEqual(outcome(lambda: sheet.can_be("letters", entry)), ("InvalidEntry",))
                thing = ("letters", entry, "least", 0)
                self.assertEqual(outcome(lambda: sheet(thing)), ("InvalidThing",))
                self.assertEqual(outcome(lambda: sheet.follows(thing)), ("InvalidThing",))
            self.assertEqual(len(sheet), 0)

    def test_one_letter(self):
        for thing in SAYS_NOTHING:
            sheet = Sheet(1)
            self.assertEqual([sheet(thing), sheet(thing), sheet.plainest(), sheet.things], [1, 2, [0], [thing] * 2])
            self.assertEqual(sheet.can_be(thing[0], ("odd", 0)), [0])
            self.assertEqual(outcome(lambda: LeanSheet(1)(thing)), ("Needless", thing))

    def test_sizes_beyond_all_texts_are_kept(self):
        for kind in SHEETS:
            self.assertEqual([kind(10 ** 29).size, kind(10 ** 29).things], [10 ** 29, []])

    def test_sheets_have_their_own_things(self):
        one, other = Sheet(4), Sheet(4)
        one(PAIR)
        self.assertEqual([one.things, other.things], [[PAIR], []])


class CallsTest(Calls):
    def test_arguments_stay_and_lists_are_new(self):
        for kind in SHEETS:
            for things in ([], [PAIR], [("names", ("even", 2), "is", 1)], [("order", ("front", 1), "is", 2)]):
                sheet = sheet_of(kind, 4, things)
                for manner in plainly.MANNERS:
                    self.check_call(sheet.can_be, {"manner": manner, "entry": ("even", 2)})
                    self.check_call(sheet.follows, {"thing": (manner, ("odd", 1), "least", 1)})
                self.check_call(sheet.plainest, {})
                self.check_call(lambda: sheet.things, {})
                self.assertEqual([sheet.things, len(sheet)], [things, len(things)])

    def test_things_is_a_property_that_is_a_new_list(self):
        for kind in SHEETS:
            sheet = sheet_of(kind, 4, [PAIR])
            kept = sheet.things
            self.assertIsNot(kept, sheet.things)
            kept.append(MIRROR)
            self.assertEqual([sheet.things, len(sheet)], [[PAIR], 1])
            sheet.undo()
            self.assertEqual([kept, sheet.things], [[PAIR, MIRROR], []])

    def test_by_position_and_by_name(self):
        for kind in SHEETS:
            sheet = kind(size=4)
            self.assertEqual([sheet.size, sheet(thing=PAIR), sheet.things], [4, 1, [PAIR]])
            self.assertEqual(sheet.can_be(entry=("even", 2), manner="letters"), [0, 2])
            self.assertIs(sheet.follows(thing=PAIR), True)

    def test_wrong_sizes(self):
        for kind in SHEETS:
            for size in NO_COUNTS:
                self.check_raises(errors.InvalidSize, kind, {"size": size})

    def test_wrong_arguments(self):
        for kind in SHEETS:
            for things in ([], [PAIR]):
                sheet = sheet_of(kind, 4, things)
                self.check_wrong(sheet.can_be, {"manner": "letters", "entry": ("even", 2)}, WRONG)
                self.check_wrong(sheet.follows, {"thing": GOOD}, WRONG)
                for thing in NO_THINGS:
                    self.assertEqual(outcome(lambda: sheet(thing)), ("InvalidThing",))
                    with self.assertRaises(ValueError) as caught:
                        sheet(thing=thing)
                    self.assertIs(type(caught.exception), errors.InvalidThing)
                self.assertEqual([sheet.size, sheet.things, len(sheet)], [4, things, len(things)])

    def test_an_error_changes_nothing(self):
        chance = random.Random("errors")
        for kind in SHEETS:
            sheet = sheet_of(kind, 4, [PAIR])
            asked = [lambda: sheet(MIRROR), lambda: sheet(GOOD[:3]), lambda: sheet.follows(None),
                     lambda: sheet.can_be("letters", ("even", 4)), lambda: sheet.can_be("Letters", ("even", 2))]
            for _ in range(20):
                found = outcome(chance.choice(asked))
                self.assertIn(found[0], ("Contradiction", "InvalidThing", "InvalidEntry", "InvalidManner"))
                self.assertEqual([sheet.things, sheet.plainest()], [[PAIR], [0, 0, 0, 0]])
                self.assertTrue(sheet == sheet_of(kind, 4, [PAIR]))


if __name__ == "__main__":
    unittest.main()
