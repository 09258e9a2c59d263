"""[23] and the heading textbehind/words.py: things, lists and tables as texts."""

import random
import unittest

from tests import plainly, saying
from tests.cases import Calls, some_list
from tests.wrongs import GOOD, NESTED, NO_LISTS, NO_STRINGS, NO_THINGS, Never, Same
from textbehind import errors
from textbehind.words import read_list, read_row, read_thing, show_list, show_row, show_thing

GREAT = 10 ** 30 - 1
NUMBERS = [0, 1, 7, 9, 10, 40, 10 ** 9, 10 ** 29, GREAT]
NO_FORMS = [thing for thing in NO_THINGS if not saying.is_thing_by_form(thing)]
FORMS = [thing for thing in NO_THINGS if saying.is_thing_by_form(thing)]
# Words that are no integers as [23] writes them.
NO_NUMBERS = ["", "00", "01", "007", "-1", "-0", "+1", "1.0", "1e3", "0x1", "1_0", "1,0", "one", "?", "\u0663",
              "\u00b2", "\uff11", "1" * 31, "0" * 30, "1" + "0" * 30, "1" * 300, "True", "None", "1\t", "\n1",
              "1\u00a0", "'1'"]
NO_LINES = ["", " ", "letters", "letters front 1 is", "letters front is 2", "letters front 1 2", "front 1 is 2",
            "letters front 1 is 2 ", " letters front 1 is 2", "letters  front 1 is 2", "letters front 1  is 2",
            "letters front 1 is 2\n", "\nletters front 1 is 2", "letters\tfront 1 is 2", "letters front 1 is 2.",
            "letters\u00a0front 1 is 2", "letters front 1 is 2\r", "letters front 1 is 2\u2028", "letters,front,1,is,2",
            "Letters front 1 is 2", "letter front 1 is 2", "LETTERS FRONT 1 IS 2", "letters Front 1 is 2",
            "letters mirrors 1 is 2", "letters mirror 1 is 2", "letters front 1 equals 2", "letters front 1 Is 2",
            "letters front 1 2 is 2", "letters pair 1 is 2", "letters pair 1 2 3 is 2", "letters odd 1 1 is 0",
            "letters even is 1", "names back 1 least 2 3", "names back 1 least", "order pair 1 most 2", "is 2",
            "least front 1 letters 2", "letters front 1 is ?", "letters ? is 2", "('letters', ('front', 1), 'is', 2)",
            "letters front (1) is 2", "letters front 1 is 2; letters front 1 is 2", "letters front 1 at least 2"]
NO_LINES += [f"letters front {word} is 2" for word in NO_NUMBERS] + [f"names odd 1 most {word}" for word in NO_NUMBERS]
NO_LINES += [f"order pair {word} 3 is 1" for word in NO_NUMBERS] + [f"order pair 3 {word} is 1" for word in NO_NUMBERS]


def thing_forms(numbers):
    """A thing of each manner, each word of an entry and each sort, with some of these numbers."""
    chance = random.Random("forms")
    for manner in plainly.MANNERS:
        for word in plainly.ENTRY_WORDS:
            for sort in plainly.SORTS:
                drawn = [chance.choice(numbers) for _ in range(3)]
                yield (manner, (word,) + tuple(drawn[:saying.NUMBERS_OF[word]]), sort, drawn[2])


class ThingTest(unittest.TestCase):
    def test_the_two_of_the_document(self):
        for text, thing in (("letters front 3 is 2", ("letters", ("front", 3), "is", 2)),
                            ("names pair 0 4 least 1", ("names", ("pair", 0, 4), "least", 1))):
            self.assertEqual([show_thing(thing), read_thing(text)], [text, thing])

    def test_each_form_is_shown_and_read_back(self):
        for numbers in ([0], [3], [0, 9], [10 ** 29, GREAT], NUMBERS):
            for thing in thing_forms(numbers):
                text = show_thing(thing)
                self.assertEqual(text, saying.shown(thing))
                self.assertTrue(saying.is_of(saying.THING, text))
                found = read_thing(text)
                self.assertEqual(found, thing)
                self.assertEqual([type(part) for part in found], [str, tuple, str, int])
                self.assertEqual({type(number) for number in found[1][1:]}, {int})

    def test_forms_alone_are_checked_and_not_rooms(self):
        for entry in (("front", 0), ("back", GREAT), ("odd", 0), ("even", 0), ("pair", 3, 3), ("pair", 4, 0)):
            thing = ("letters", entry, "is", GREAT)
            self.assertEqual(read_thing(show_thing(thing)), thing)
        self.assertGreater(len(FORMS), 12)
        for thing in FORMS:
            if thing[3] <= GREAT:
                self.assertEqual(read_thing(show_thing(thing)), thing)
            self.assertEqual(show_list([thing, GOOD]), saying.shown(thing) + "\n" + saying.shown(GOOD))

    def test_numbers_of_31_digits_are_shown_but_not_read(self):
        for thing in (("letters", ("front", 1), "is", GREAT + 1), ("names", ("pair", 0, GREAT + 1), "most", 0)):
            text = show_thing(thing)
            self.assertEqual(text, saying.shown(thing))
            with self.assertRaises(errors.Unreadable):
                read_thing(text)

    def test_what_is_no_such_text(self):
        for line in NO_LINES:
            self.assertFalse(saying.is_of(saying.THING, line))
            with self.assertRaises(errors.Unreadable) as caught:
                read_thing(line)
            self.assertIs(type(caught.exception), errors.Unreadable, line)


class ListTest(unittest.TestCase):
    def test_the_empty_list(self):
        self.assertEqual([show_list([]), read_list("")], ["", []])

    def test_lists_are_shown_and_read_back(self):
        chance = random.Random("lists")
        for manners in (["letters"], ["names"], ["order"], list(plainly.MANNERS)):
            for count in (1, 2, 3, 8, 20):
                things = some_list(chance, chance.randint(2, 60), manners, plainly.ENTRY_WORDS, count, 0.5)
                text = show_list(things)
                self.assertEqual(text, "\n".join(saying.shown(thing) for thing in things))
                self.assertTrue(saying.is_of(saying.LIST, text))
                self.assertEqual(read_list(text), things)

    def test_the_order_stays_and_things_may_stand_twice(self):
        things = list(thing_forms(NUMBERS))
        for told in (things, things[::-1], things[:1] * 3, things[:2] + things[:2]):
            self.assertEqual(read_list(show_list(told)), told)

    def test_what_is_no_such_text(self):
        line = "letters front 1 is 2"
        wrong = ["\n", " ", "\n\n", line + "\n", "\n" + line, line + "\n\n" + line, line + " \n" + line,
                 line + "\n " + line, line + "\r\n" + line, line + "\r" + line, line + "; " + line, line + " " + line,
                 line + "\n" + line + "\n", line + "\u2028" + line, line + "\x0b" + line, line + "\x0c" + line,
                 line + "\x85" + line, line + "\n \n" + line, f"[{line}]"]
        for text in wrong + [line + "\n" + other for other in NO_LINES] + [other + "\n" + line for other in NO_LINES]:
            self.assertFalse(saying.is_of(saying.LIST, text))
            with self.assertRaises(errors.Unreadable) as caught:
                read_list(text)
            self.assertIs(type(caught.exception), errors.Unreadable, text)


class RowTest(unittest.TestCase):
    def test_the_empty_table(self):
        self.assertEqual([show_row([]), read_row("")], ["", []])

    def test_rows_are_shown_and_read_back(self):
        chance = random.Random("rows")
        rows = [[0], [9], [None], [GREAT], [None, None], [0, None, 0], NUMBERS, [None] + NUMBERS]
        rows += [[chance.choice(NUMBERS + [None]) for _ in range(chance.randint(1, 40))] for _ in range(60)]
        for row in rows:
            text = show_row(row)
            self.assertEqual(text, " ".join("?" if value is None else str(value) for value in row))
            self.assertTrue(saying.is_of(saying.ROW, text))
            self.assertEqual(read_row(text), row)
            self.assertTrue(all(value is None or type(value) is int for value in read_row(text)))
        self.assertEqual([show_row([3, None, 0]), read_row("3 ? 0")], ["3 ? 0", [3, None, 0]])

    def test_what_is_no_such_text(self):
        wrong = [" ", "1 ", " 1", "1  2", "1 2 ", "1 2\n", "\n", "1\n2", "1\t2", "1,2", "1, 2", "1;2", "? ", " ?",
                 "??", "? ?\n", "?  ?", "None", "x", "1 x", "[1, 2]", "1 -", "_", "-", "\u00bf", "\uff1f",
                 "1\u00a02", "1 . 2", "letters front 1 is 2"]
        for word in NO_NUMBERS:
            if word not in ("?", ""):
                wrong += [word, f"{word} 1", f"1 {word}", f"? {word} ?"]
        for text in wrong:
            self.assertFalse(saying.is_of(saying.ROW, text), text)
            with self.assertRaises(errors.Unreadable) as caught:
                read_row(text)
            self.assertIs(type(caught.exception), errors.Unreadable, text)

    def test_numbers_of_31_digits_are_shown_but_not_read(self):
        self.assertEqual(show_row([GREAT + 1, 0]), "1" + "0" * 30 + " 0")
        with self.assertRaises(errors.Unreadable):
            read_row(show_row([GREAT + 1, 0]))


class BentTest(unittest.TestCase):
    """Right texts with one sign changed: read just as a plain reading of [23] reads them."""

    SIGNS = " \n\t\r?0129-+;,lf\u0661\u00b9\u00a0\u2003"

    def bent(self, chance, text):
        at = chance.randint(0, len(text))
        sign = chance.choice(self.SIGNS)
        behind = text[at + 1:]
        return chance.choice([text[:at] + sign + text[at:], text[:at] + behind, text[:at] + sign + behind])

    def check_bent(self, read, show, form, text):
        if saying.is_of(form, text):
            self.assertEqual(show(read(text)), text)
            return 1
        with self.assertRaises(errors.Unreadable):
            read(text)
        return 0

    def test_one_sign_changed(self):
        chance = random.Random("bent")
        right = []
        for turn in range(2000):
            things = chance.sample(list(thing_forms([0, 3, 10, 12])), 3)
            row = [chance.choice([None, 0, 5, 10, 12]) for _ in range(chance.randint(0, 6))]
            thing, told, shown = [self.bent(chance, text) for text in (show_thing(things[0]), show_list(things),
                                                                       show_row(row))]
            right.append((self.check_bent(read_thing, show_thing, saying.THING, thing),
                          self.check_bent(read_list, show_list, saying.LIST, told),
                          self.check_bent(read_row, show_row, saying.ROW, shown)))
        for found in zip(*right):
            self.assertTrue(50 < sum(found) < 1950)


class CallsTest(Calls):
    NO_ROWS = [None, True, 0, 7, "", "1 2", "?", b"", (), (1, 2), {}, {1: 2}, {1}, range(3), object(), [True], [False],
               [-1], [1, -10 ** 20, 1], ["1"], ["?"], [b"1"], [[1]], [(1,)], [[]], [{}], [object()], [1, None, "?"],
               [None, True], Same(), Never(), [Same()], [Never()]] + NESTED
    NO_FORM_LISTS = [things for things in NO_LISTS if not isinstance(things, list)] + [
        [thing] for thing in NO_FORMS] + [[GOOD, thing] for thing in NO_FORMS] + [[thing, GOOD] for thing in NO_FORMS]

    def test_arguments_stay_and_lists_are_new(self):
        for things in ([], [GOOD], [GOOD, GOOD]):
            self.check_call(show_list, {"things": list(things)})
            self.check_call(read_list, {"lines": show_list(things)})
        for row in ([], [1, None, 3]):
            self.check_call(show_row, {"row": list(row)})
            self.check_call(read_row, {"line": show_row(row)})
        self.check_call(show_thing, {"thing": GOOD})
        self.check_call(read_thing, {"line": show_thing(GOOD)})

    def test_wrong_arguments(self):
        self.assertGreater(len(NO_FORMS), 60)
        self.check_wrong(show_thing, {"thing": GOOD}, {"thing": (errors.InvalidThing, NO_FORMS)})
        self.check_wrong(show_list, {"things": [GOOD]}, {"things": (errors.InvalidThings, self.NO_FORM_LISTS)})
        self.check_wrong(show_row, {"row": [1, None]}, {"row": (errors.InvalidRow, self.NO_ROWS)})

    def test_objects_that_are_no_texts(self):
        for value in NO_STRINGS:
            self.check_raises(errors.Unreadable, read_thing, {"line": value})
            self.check_raises(errors.Unreadable, read_list, {"lines": value})
            self.check_raises(errors.Unreadable, read_row, {"line": value})


if __name__ == "__main__":
    unittest.main()
