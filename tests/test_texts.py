"""[5] to [8], the part of [20] on texts, and the heading textbehind/texts.py."""

import random
import unittest

from tests import plainly
from tests.cases import Calls
from tests.wrongs import GOOD, WRONG
from textbehind import errors
from textbehind.texts import agreement, entries, first_false, is_true, plain, room, table, told


def some_texts():
    chance = random.Random("texts")
    found = [list(text) for size in range(4) for text in plainly.texts(size)]
    for size in range(4, 12):
        for letters in (1, 2, 2, 3, 5, 9):
            found.append([chance.randrange(letters) * 7 for _ in range(size)])
    return found


class ExampleTest(unittest.TestCase):
    def test_the_rows_of_the_interface(self):
        text = [0, 1, 0, 0, 1, 0]
        self.assertEqual(table(text, "letters", "front"), [0, 1, 3, 0, 1])
        self.assertEqual(table(text, "names", "front"), [2, 1, 3, 2, 1])
        self.assertEqual(table(text, "order", "front"), [1, 1, 3, 1, 1])
        self.assertEqual(table(text, "letters", "mirrors"), [0, 0, 1, 0, 0, 3, 0, 0, 1, 0, 0])


class EntriesTest(unittest.TestCase):
    def test_each_word_has_its_entries_in_order(self):
        for word in plainly.WORDS:
            for size in range(9):
                self.assertEqual(entries(size, word), plainly.entries(size, word))

    def test_they_ascend_but_for_mirrors(self):
        for word in plainly.ENTRY_WORDS:
            self.assertEqual(entries(7, word), sorted(entries(7, word)))
        self.assertEqual(entries(3, "mirrors"), [("odd", 0), ("even", 1), ("odd", 1), ("even", 2), ("odd", 2)])

    def test_short_texts(self):
        for word in plainly.WORDS:
            self.assertEqual(entries(0, word), [])
            self.assertEqual(entries(1, word), [("odd", 0)] if word in ("odd", "mirrors") else [])

    def test_rooms(self):
        for word in plainly.WORDS:
            for size in list(range(9)) + [59, 60]:
                for entry in entries(size, word):
                    self.assertEqual(room(size, entry), plainly.room(size, entry), (size, entry))

    def test_ends_have_no_room(self):
        for size in range(1, 61):
            self.assertEqual([room(size, ("odd", 0)), room(size, ("odd", size - 1))], [0, 0])


class AgreementTest(unittest.TestCase):
    def test_held_against_the_definition(self):
        for text in some_texts():
            for manner in plainly.MANNERS:
                for word in plainly.WORDS:
                    told_row = [plainly.agreement(text, manner, entry) for entry in plainly.entries(len(text), word)]
                    self.assertEqual(table(text, manner, word), told_row, (text, manner, word))
                    for entry, value in zip(entries(len(text), word), told_row):
                        self.assertEqual(agreement(text, manner, entry), value)

    def test_letters_at_most_order_at_most_names(self):
        for text in some_texts():
            for word in plainly.WORDS:
                rows = [table(text, manner, word) for manner in ("letters", "order", "names")]
                self.assertEqual([sorted(values) for values in zip(*rows)], [list(values) for values in zip(*rows)])

    def test_one_letter_is_alike_in_names_and_order(self):
        for manner in ("names", "order"):
            self.assertEqual(table([3, 3, 9], manner, "front"), [1, 1])
            self.assertEqual(agreement([4, 8], manner, ("even", 1)), 1)
            self.assertEqual(agreement([4, 8], manner, ("odd", 1)), 0)

    def test_names_in_texts_of_two_letters_are_told_by_differences(self):
        for text in some_texts():
            if len(set(text)) > 2:
                continue
            for word in plainly.ENTRY_WORDS:
                for entry in entries(len(text), word):
                    walks = plainly.walks(len(text), entry)
                    if not room(len(text), entry):
                        continue
                    first, second = [[text[p] != text[q] for p, q in zip(places, places[1:])] for places in walks]
                    alike = 0
                    while alike < min(len(first), len(second)) and first[alike] == second[alike]:
                        alike += 1
                    expected = min(room(len(text), entry), 1 + alike)
                    self.assertEqual(agreement(text, "names", entry), expected, (text, entry))

    def test_renaming_is_one_to_one_both_ways(self):
        self.assertEqual(agreement([0, 1, 2, 2], "names", ("pair", 0, 2)), 1)
        self.assertEqual(agreement([2, 2, 0, 1], "names", ("pair", 0, 2)), 1)
        self.assertEqual(agreement([0, 1, 2, 3], "names", ("pair", 0, 2)), 2)
        self.assertEqual(agreement([0, 1, 3, 2], "names", ("pair", 0, 2)), 2)
        self.assertEqual(agreement([0, 1, 3, 2], "order", ("pair", 0, 2)), 1)

    def test_long_texts_and_great_letters(self):
        chance = random.Random("long")
        for text in ([chance.choice([0, 10 ** 9]) for _ in range(60)], [k * 10 ** 7 for k in range(60)], [3] * 60,
                     [10 ** 9 - k % 3 for k in range(60)]):
            for manner in plainly.MANNERS:
                for word in plainly.WORDS:
                    row = table(text, manner, word)
                    self.assertEqual(len(row), len(entries(60, word)))
                    for entry, value in chance.sample(list(zip(entries(60, word), row)), 9):
                        self.assertEqual(plainly.agreement(text, manner, entry), value)

    def test_texts_of_no_and_of_one_letter(self):
        for manner in plainly.MANNERS:
            for word in plainly.WORDS:
                self.assertEqual(table([], manner, word), [])
                self.assertEqual(table([10 ** 9], manner, word), [0] if word in ("odd", "mirrors") else [])
            self.assertEqual(agreement([8], manner, ("odd", 0)), 0)


class PlainTest(unittest.TestCase):
    def test_letters_are_numbered_as_they_come(self):
        for manner in ("letters", "names"):
            self.assertEqual(plain([10 ** 9, 5, 10 ** 9, 7, 5], manner), [0, 1, 0, 2, 1])
        self.assertEqual(plain([10 ** 9, 5, 10 ** 9, 7, 5], "order"), [2, 0, 2, 1, 0])

    def test_it_is_equal_up_to_the_manner_and_stays_so(self):
        for text in some_texts():
            for manner in plainly.MANNERS:
                found = plain(text, manner)
                self.assertTrue(plainly.rows_alike(text, found, "order" if manner == "order" else "names"))
                self.assertEqual(sorted(set(found)), list(range(len(set(text)))))
                self.assertEqual(plain(found, manner), found)
                self.assertEqual(plain([3 * letter + 4 for letter in text], manner), found)

    def test_no_letters(self):
        for manner in plainly.MANNERS:
            self.assertEqual(plain([], manner), [])


class TrueTest(unittest.TestCase):
    def test_held_against_the_definition(self):
        chance = random.Random("true")
        for text in some_texts():
            for manner in plainly.MANNERS:
                for word in plainly.ENTRY_WORDS:
                    for entry in entries(len(text), word):
                        value = chance.randint(0, room(len(text), entry))
                        for sort in plainly.SORTS:
                            thing = (manner, entry, sort, value)
                            self.assertIs(is_true(text, thing), plainly.is_true(text, thing), (text, thing))

    def test_sorts_that_say_nothing_or_are_never_true(self):
        for text in ([0, 0, 0], [0, 1, 2], [1, 0, 1]):
            for manner in plainly.MANNERS:
                for entry in entries(3, "pair") + entries(3, "odd") + entries(3, "even"):
                    self.assertTrue(is_true(text, (manner, entry, "least", 0)))
                    self.assertTrue(is_true(text, (manner, entry, "most", room(3, entry))))
                    if manner != "letters":
                        for sort in ("is", "most"):
                            self.assertIs(is_true(text, (manner, entry, sort, 0)), room(3, entry) == 0)

    def test_first_false(self):
        text = [0, 1, 0, 0]
        true, wrong = ("letters", ("front", 2), "is", 1), ("order", ("even", 1), "most", 0)
        self.assertIsNone(first_false(text, []))
        self.assertIsNone(first_false(text, [true, true]))
        self.assertEqual(first_false(text, [true, wrong, true, wrong]), 1)
        self.assertEqual(first_false(text, [wrong]), 0)
        self.assertIsNone(first_false([], []))
        self.assertIsNone(first_false([6], [("names", ("odd", 0), "is", 0)]))

    def test_first_false_is_the_first_one_not_true(self):
        chance = random.Random("false")
        for text in some_texts():
            pool = [entry for word in plainly.ENTRY_WORDS for entry in entries(len(text), word)]
            things = [(chance.choice(plainly.MANNERS), entry, chance.choice(plainly.SORTS),
                       chance.randint(0, room(len(text), entry))) for entry in pool]
            false = [k for k, thing in enumerate(things) if not plainly.is_true(text, thing)]
            self.assertEqual(first_false(text, things), false[0] if false else None)


class ToldTest(unittest.TestCase):
    def test_none_is_left_out(self):
        self.assertEqual(told(4, "names", "front", [3, None, 0]),
                         [("names", ("front", 1), "is", 3), ("names", ("front", 3), "is", 0)])
        self.assertEqual(told(2, "order", "mirrors", [0, 1, None]),
                         [("order", ("odd", 0), "is", 0), ("order", ("even", 1), "is", 1)])

    def test_a_table_is_true_of_its_text(self):
        for text in some_texts():
            for manner in plainly.MANNERS:
                for word in plainly.WORDS:
                    row = table(text, manner, word)
                    things = told(len(text), manner, word, row)
                    self.assertEqual(things, [(manner, entry, "is", value)
                                              for entry, value in zip(entries(len(text), word), row)])
                    self.assertIsNone(first_false(text, things))
                    self.assertEqual(told(len(text), manner, word, [None] * len(row)), [])

    def test_no_entries(self):
        for word in plainly.WORDS:
            self.assertEqual(told(0, "letters", word, []), [])
        self.assertEqual(told(1, "letters", "mirrors", [0]), [("letters", ("odd", 0), "is", 0)])
        for size, word, row in [(0, "mirrors", [0]), (1, "front", [None]), (1, "odd", []), (1, "odd", [1])]:
            with self.assertRaises(errors.InvalidRow):
                told(size, "names", word, row)


GOOD_CALLS = [
    (room, {"size": 4, "entry": ("front", 1)}),
    (entries, {"size": 4, "word": "mirrors"}),
    (agreement, {"text": [0, 1, 0, 0], "manner": "names", "entry": ("pair", 0, 2)}),
    (table, {"text": [0, 1, 0, 0], "manner": "order", "word": "pair"}),
    (plain, {"text": [0, 10 ** 9, 3, 3], "manner": "order"}),
    (is_true, {"text": [0, 1, 0, 0], "thing": GOOD}),
    (first_false, {"text": [0, 1, 0, 0], "things": [GOOD, ("order", ("odd", 1), "least", 1)]}),
    (told, {"size": 4, "manner": "names", "word": "front", "row": [3, None, 0]}),
]


class CallsTest(Calls):
    def test_arguments_stay_and_lists_are_new(self):
        for function, good in GOOD_CALLS:
            self.check_call(function, good)

    def test_wrong_arguments(self):
        for function, good in GOOD_CALLS:
            self.check_wrong(function, good, WRONG)

    def test_things_and_entries_are_of_the_length_of_the_text(self):
        for text in ([], [0], [0, 0], [0, 0, 0]):
            for manner in plainly.MANNERS:
                with self.assertRaises(errors.InvalidEntry):
                    agreement(text, manner, ("front", len(text)))
            with self.assertRaises(errors.InvalidThing):
                is_true(text, ("letters", ("pair", 0, 3), "least", 0))
            with self.assertRaises(errors.InvalidThings):
                first_false(text, [("letters", ("even", 3), "least", 0)])


if __name__ == "__main__":
    unittest.main()
