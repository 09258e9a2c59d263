"""[3]: the longest texts and the greatest lists of counts.py, live.py, words.py and console.py are answered."""

import random
import unittest
from itertools import combinations

from tests import counting, plainly, saying, tabling
from tests.cases import some_list
from textbehind import errors
from textbehind.console import Console
from textbehind.counts import tables, telling
from textbehind.letters import fewest, plainest
from textbehind.lists import can_be, clashes, follows, is_possible
from textbehind.live import LeanSheet, Sheet
from textbehind.texts import agreement, first_false, plain, room, table
from textbehind.words import read_list, read_row, read_thing, show_list, show_row, show_thing

GREAT = 10 ** 30 - 1


class CountsTest(unittest.TestCase):
    def test_tables_in_texts_of_7_letters_and_of_5_in_order(self):
        chance = random.Random("tables")
        for manner in plainly.MANNERS:
            size = 5 if manner == "order" else 7
            for word in plainly.WORDS:
                found = tables(size, manner, word)
                rows = [tabling.table(text, manner, word) for text in tabling.naming_texts(size)[::9]]
                self.assertEqual([row for row in rows if row not in found], [])
                for _ in range(40):
                    text = [chance.randrange(size) for _ in range(size)]
                    self.assertIn(table(text, manner, word), found)
                self.assertEqual(found, sorted(found))

    def test_telling_of_all_texts_of_4_letters_with_all_words(self):
        for text in plainly.texts(4):
            great = [10 ** 9 - 7 * letter for letter in text]
            for manner in plainly.MANNERS:
                found = telling(great, manner, list(plainly.WORDS))
                every = sorted({entry for word in plainly.WORDS for entry in plainly.entries(4, word)})
                things = [(manner, entry, "is", agreement(great, manner, entry)) for entry in found or every]
                having = plainly.texts_in(4, plainly.having(4, things))
                equal = {tuple(plain(other, manner)) for other in having} == {tuple(plain(great, manner))}
                self.assertIs(equal, found is not None)

    def test_somewhat_longer_texts_are_answered(self):
        for size, manner in ((8, "letters"), (8, "names"), (6, "order")):
            self.assertIn(table([0] * size, manner, "mirrors"), tables(size, manner, "mirrors"))
        corners = telling([3, 4, 5, 6, 7], "letters", list(plainly.WORDS))
        self.assertEqual(len(corners), len(list(combinations(range(5), 2))))
        for manner in plainly.MANNERS:
            self.assertIs(telling([4] * 5, manner, list(plainly.WORDS)) is None, manner == "names")


class SheetsTest(unittest.TestCase):
    def told(self, kind, size, things):
        """What a sheet says to 8 and more things, of which it keeps at most 8; held against the functions."""
        sheet, kept = kind(size), []
        for thing in things:
            longer = kept + [thing]
            if not is_possible(size, longer):
                with self.assertRaises(errors.Contradiction) as caught:
                    sheet(thing)
                self.assertEqual(caught.exception.indexes, clashes(size, longer)[0])
            elif kind is LeanSheet and follows(size, kept, thing):
                with self.assertRaises(errors.Needless) as caught:
                    sheet(thing)
                self.assertEqual(caught.exception.thing, thing)
            else:
                kept = longer
                self.assertEqual(sheet(thing), len(kept))
            self.assertEqual([sheet.things, len(sheet), sheet.size], [kept, len(kept), size])
            if len(kept) == 8:
                kept = kept[:-1]
                sheet.undo()
        return sheet

    def test_letters_in_texts_of_12(self):
        for kind in (Sheet, LeanSheet):
            for truth in (1, 0.7, 0.3):
                chance = random.Random(f"12 {truth}")
                sheet = self.told(kind, 12, some_list(chance, 12, ["letters"], plainly.ENTRY_WORDS, 24, truth))
                self.assertEqual(sheet.plainest(), plainest(12, sheet.things))
                for word in plainly.ENTRY_WORDS:
                    for entry in plainly.entries(12, word)[::4]:
                        self.assertEqual(sheet.can_be("letters", entry), can_be(12, sheet.things, "letters", entry))

    def test_names_in_texts_of_7_and_order_in_texts_of_5(self):
        manners_of = [(7, ["names"]), (7, ["names", "letters"]), (5, ["order"]), (5, list(plainly.MANNERS))]
        for kind in (Sheet, LeanSheet):
            for size, manners in manners_of:
                for truth in (1, 0.5):
                    chance = random.Random(f"{size} {manners} {truth}")
                    sheet = self.told(kind, size, some_list(chance, size, manners, plainly.ENTRY_WORDS, 20, truth))
                    self.assertEqual(sheet.plainest(), counting.plainest(size, sheet.things))
                    for entry in (("front", 1), ("even", size // 2), ("pair", 0, 2)):
                        self.assertEqual(sheet.can_be(manners[0], entry),
                                         plainly.can_be(size, sheet.things, manners[0], entry))

    def test_a_clash_of_all_eight_things(self):
        links = [("letters", ("pair", place, place + 1), "least", 1) for place in range(7)]
        for kind in (Sheet, LeanSheet):
            for sort in ("is", "most"):
                sheet = kind(12)
                for many, thing in enumerate(links):
                    self.assertEqual(sheet(thing), many + 1)
                with self.assertRaises(errors.Contradiction) as caught:
                    sheet(("letters", ("pair", 0, 7), sort, 0))
                self.assertEqual(caught.exception.indexes, list(range(8)))

    def test_somewhat_more_things_are_answered(self):
        links = [("letters", ("pair", place, place + 1), "least", 1) for place in range(13)]
        sheet = Sheet(14)
        for thing in links:
            sheet(thing)
        with self.assertRaises(errors.Contradiction) as caught:
            sheet(("letters", ("front", 13), "is", 0))
        self.assertEqual(caught.exception.indexes, list(range(14)))


class ConsolesTest(unittest.TestCase):
    def commands(self, chance, size, manner):
        """400 commands of all kinds, with at most 8 things at a time."""
        many = 0
        yield f"text {size}"
        for _ in range(399):
            word = chance.choice(["tell", "tell", "tell", "back", "things", "plain", "letters", "can", "follows"])
            if word in ("tell", "follows"):
                thing = some_list(chance, size, [manner], ["pair", "front", "even"], 1, 0.9)[0]
                if word == "tell" and many == 8:
                    word = "follows"
                many += word == "tell"
                yield f"{word} {show_thing(thing)}"
            elif word == "can":
                yield f"can {manner} even {chance.randrange(1, size)}"
            else:
                many -= word == "back" and many > 0
                yield word

    def test_consoles_of_400_commands(self):
        for size, manner in ((12, "letters"), (7, "names"), (5, "order"), (5, "letters")):
            chance = random.Random(f"400 {size} {manner}")
            console, kept, said = Console(), [], 0
            for command in self.commands(chance, size, manner):
                said += 1
                self.check_command(console, kept, size, command)
            self.assertEqual(said, 400)
            self.assertEqual(console.say("things"), show_list(kept).replace("\n", "; "))

    def check_command(self, console, kept, size, command):
        words = command.split(" ")
        try:
            answer = console.say(command)
        except errors.Contradiction as error:
            self.assertEqual(error.indexes, clashes(size, kept + [saying.thing_in(words[1:])])[0])
            return
        except errors.NothingToUndo:
            self.assertEqual(kept, [])
            return
        if words[0] == "tell":
            kept.append(saying.thing_in(words[1:]))
            self.assertEqual(answer, str(len(kept)))
        elif words[0] == "back":
            kept.pop()
        elif words[0] == "plain":
            self.assertIsNone(first_false(read_row(answer), kept))
        elif words[0] == "letters":
            self.assertEqual(answer, str(fewest(size, kept)))
        elif words[0] == "can":
            self.assertEqual(read_row(answer), can_be(size, kept, words[1], saying.entry_in(words[2:])))
        elif words[0] == "follows":
            self.assertEqual(answer, "yes" if follows(size, kept, saying.thing_in(words[1:])) else "no")


class WordsTest(unittest.TestCase):
    def test_lists_of_4000_characters(self):
        chance = random.Random("4000")
        short = [thing for thing in some_list(chance, 60, list(plainly.MANNERS), plainly.ENTRY_WORDS, 40)]
        pair = ("letters", ("pair", GREAT - 1, GREAT), "least", GREAT)
        for things in (short, [pair] * 34, [("names", ("odd", 0), "is", GREAT)] * 40):
            text = show_list(things)
            self.assertLessEqual(len(text), 4000)
            self.assertEqual(read_list(text), things)
            for wrong in (text + "\n", text + " ", text[:-1] + "x", text + "\n" + text[:9], text.replace("\n", "; ")):
                with self.assertRaises(errors.Unreadable):
                    read_list(wrong)
        self.assertGreater(len(show_list([pair] * 34)), 3600)

    def test_rows_of_4000_characters(self):
        for row in ([None] * 2000, [7] * 2000, [GREAT] * 129, [None, GREAT] * 121):
            text = show_row(row)
            self.assertTrue(3700 < len(text) <= 4000)
            self.assertEqual(read_row(text), row)
            for wrong in (text + " ", " " + text, text + "\n", text[:-1] + "-", text.replace(" ", "  ", 1)):
                with self.assertRaises(errors.Unreadable):
                    read_row(wrong)

    def test_other_texts_of_4000_characters(self):
        for text in (" " * 4000, "\n" * 4000, "9" * 4000, "0" * 4000, "? " * 2000, "letters " * 500, "a" * 4000,
                     "letters front 1 is " + "2" * 3981, "text " + "4" * 3995, "tell " * 800, "back\n" * 800):
            for read in (read_thing, read_list, read_row):
                with self.assertRaises(errors.Unreadable):
                    read(text)
            with self.assertRaises(errors.InvalidCommand):
                Console().say(text)

    def test_somewhat_longer_texts_are_answered(self):
        thing = ("order", ("pair", 0, GREAT), "most", GREAT)
        self.assertEqual(read_list(show_list([thing] * 80)), [thing] * 80)
        self.assertEqual(read_row(show_row([None, GREAT, 0] * 900)), [None, GREAT, 0] * 900)
        self.assertEqual(room(GREAT + 1, ("front", GREAT)), 1)


if __name__ == "__main__":
    unittest.main()
