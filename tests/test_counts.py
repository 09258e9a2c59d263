"""[7], [20], [21] and the heading textbehind/counts.py: all complete tables, and by which entries a text is told."""

import random
import unittest
from functools import lru_cache
from itertools import combinations, permutations, product

from tests import plainly, tabling
from tests.cases import Calls
from tests.wrongs import WRONG
from textbehind.complete import count_ends, first_wrong
from textbehind.counts import tables, telling
from textbehind.texts import agreement, entries, first_false, plain, table

LETTER_ROWS = {0: [], 1: [0], 2: [10 ** 9, 7], 3: [7, 7, 10 ** 9], 4: [2, 10 ** 9, 2, 5]}


def texts_of(size):
    """Texts that stand for all: up to names for more than 5 letters, otherwise all over so many letters."""
    return plainly.texts(size) if size <= 5 else tabling.naming_texts(size)


def tables_of(size, manner, word):
    return [list(row) for row in sorted({tuple(tabling.table(text, manner, word)) for text in texts_of(size)})]


@lru_cache(maxsize=None)
def equal_texts(text, manner):
    """The texts that are equal to this one up to the manner, as the bits of a number."""
    alike = "order" if manner == "order" else "names"
    found = [plainly.rows_alike(list(text), other, alike) for other in plainly.texts(len(text))]
    return sum(1 << k for k, same in enumerate(found) if same)


def entries_of(size, words):
    return sorted({entry for word in words for entry in plainly.entries(size, word)})


def is_told_by(text, manner, chosen):
    """[21], over all texts of the length."""
    things = [(manner, entry, "is", plainly.agreement(text, manner, entry)) for entry in chosen]
    return plainly.having(len(text), things) | equal_texts(tuple(text), manner) == equal_texts(tuple(text), manner)


def first_telling(text, manner, words):
    """The first list of entries that tells the text, going over all of them by their numbers of entries."""
    every = entries_of(len(text), words)
    if not is_told_by(text, manner, every):
        return None
    for many in range(len(every) + 1):
        for chosen in combinations(every, many):
            if is_told_by(text, manner, chosen):
                return list(chosen)


def all_lists_of_words():
    return [list(words) for many in range(7) for words in combinations(plainly.WORDS, many)]


class TablesTest(unittest.TestCase):
    def test_held_against_all_texts_in_each_word_and_manner(self):
        for manner in plainly.MANNERS:
            for word in plainly.WORDS:
                for size in range(6):
                    self.assertEqual(tables(size, manner, word), tables_of(size, manner, word), (size, manner, word))

    def test_texts_of_6_and_7_letters(self):
        for word in plainly.WORDS:
            for size in (6, 7):
                expected = [list(row) for row in sorted(tabling.texts_by_table(size, word))]
                self.assertEqual(tables(size, "letters", word), expected)
            self.assertEqual(tables(6, "names", word), tables_of(6, "names", word))
        for word in ("front", "mirrors"):
            self.assertEqual(tables(7, "names", word), tables_of(7, "names", word))

    def test_order_in_texts_of_6_letters(self):
        # Up to 5 letters the texts whose letters are numbered as they come have all the tables; from 6 on they do not.
        texts = [list(text) for text in product(range(6), repeat=6) if set(text) == set(range(len(set(text))))]
        for word in ("even", "mirrors"):
            rows = {tuple(tabling.table(text, "order", word)) for text in texts}
            self.assertEqual(tables(6, "order", word), [list(row) for row in sorted(rows)])

    def test_they_ascend_and_each_stands_once(self):
        for manner in plainly.MANNERS:
            for word in plainly.WORDS:
                for size in (0, 1, 2, 4, 5 if manner == "order" else 7):
                    found = tables(size, manner, word)
                    self.assertIs(type(found), list)
                    self.assertTrue(all(type(row) is list for row in found))
                    self.assertTrue(all(one < other for one, other in zip(found, found[1:])))
                    self.assertTrue(all(len(row) == len(entries(size, word)) for row in found))

    def test_each_text_has_one_of_them(self):
        chance = random.Random("tables")
        for manner in plainly.MANNERS:
            for word in plainly.WORDS:
                size = 5 if manner == "order" else 7
                found = tables(size, manner, word)
                for letters in (1, 2, 3, 10 ** 9):
                    text = [chance.randrange(letters) for _ in range(size)]
                    self.assertIn(table(text, manner, word), found)

    def test_they_are_the_rows_that_are_not_wrong(self):
        for word in tabling.WORDS:
            for size in range(tabling.SHORTEST[word], 6):
                rows = [row for row in tabling.fitting_rows(size, word) if first_wrong(word, row) is None]
                self.assertEqual(tables(size, "letters", word), sorted(rows))

    def test_tables_of_fronts_are_as_many_as_rows_of_ends(self):
        for size in range(8):
            self.assertEqual(len(tables(size, "letters", "front")), count_ends(size))
            self.assertEqual(len(tables(size, "letters", "back")), count_ends(size))

    def test_texts_of_no_and_of_one_letter(self):
        for manner in plainly.MANNERS:
            for word in plainly.WORDS:
                self.assertEqual(tables(0, manner, word), [[]])
                self.assertEqual(tables(1, manner, word), [[0]] if word in ("odd", "mirrors") else [[]])

    def test_short_ones(self):
        self.assertEqual(tables(2, "letters", "front"), [[0], [1]])
        self.assertEqual(tables(2, "names", "front"), [[1]])
        self.assertEqual(tables(3, "letters", "front"), [[0, 0], [0, 1], [1, 0], [2, 1]])
        self.assertEqual(tables(3, "order", "front"), [[1, 1], [2, 1]])
        self.assertEqual(tables(2, "letters", "mirrors"), [[0, 0, 0], [0, 1, 0]])
        self.assertEqual(tables(3, "letters", "pair"), [[0, 0, 0], [0, 0, 1], [0, 1, 0], [1, 0, 0], [2, 1, 1]])


class TellingTest(unittest.TestCase):
    def check_telling(self, text, manner, words):
        found = telling(text, manner, words)
        self.assertEqual(found, first_telling(text, manner, words), (text, manner, words))
        return found

    def test_all_texts_of_few_letters_and_all_lists_of_words(self):
        for size in range(4):
            for text in plainly.texts(size):
                for manner in plainly.MANNERS:
                    for words in all_lists_of_words():
                        self.check_telling(text, manner, words)

    def test_all_texts_of_4_letters_up_to_names(self):
        for text in tabling.naming_texts(4):
            for manner in plainly.MANNERS:
                for words in [list(plainly.WORDS)] + [[word] for word in plainly.WORDS]:
                    self.check_telling(text, manner, words)

    def test_drawn_texts_of_4_letters_and_drawn_lists_of_words(self):
        chance = random.Random("telling")
        for text in chance.sample(plainly.texts(4), 40):
            for manner in plainly.MANNERS:
                words = chance.sample(plainly.WORDS, chance.randint(1, 5))
                self.check_telling(text, manner, words)

    def test_words_in_any_order(self):
        for text in ([0, 1, 0, 2], [0, 0, 1, 1], [0, 0, 0, 0]):
            for manner in plainly.MANNERS:
                found = telling(text, manner, ["front", "mirrors", "back"])
                for words in permutations(["front", "mirrors", "back"]):
                    self.assertEqual(telling(text, manner, list(words)), found)

    def test_entries_of_mirrors_stand_once(self):
        for text in plainly.texts(3) + tabling.naming_texts(4):
            for manner in plainly.MANNERS:
                found = telling(text, manner, ["mirrors"])
                self.assertEqual(telling(text, manner, ["odd", "mirrors", "even"]), found)
                self.assertEqual(telling(text, manner, ["even", "odd"]), found)

    def test_great_letters(self):
        for size, text in LETTER_ROWS.items():
            for manner in plainly.MANNERS:
                found = telling(text, manner, list(plainly.WORDS))
                self.assertEqual(found, first_telling(plain(text, manner), manner, plainly.WORDS))
                self.assertEqual(found, telling(plain(text, manner), manner, list(plainly.WORDS)))

    def test_texts_of_no_and_of_one_letter_are_told_by_nothing(self):
        for text in ([], [0], [10 ** 9]):
            for manner in plainly.MANNERS:
                for words in all_lists_of_words():
                    self.assertEqual(telling(text, manner, words), [])

    def test_what_all_entries_do_not_tell(self):
        for manner in plainly.MANNERS:
            for text in ([0, 0], [0, 1], [4, 4, 4], [0, 1, 2, 3]):
                self.assertIsNone(telling(text, manner, []))
        for text in ([0, 0], [0, 1], [1, 0]):
            self.assertIsNone(telling(text, "names", list(plainly.WORDS)))
            self.assertIsNone(telling(text, "order", list(plainly.WORDS)))
        self.assertIsNone(telling([0, 1, 2], "letters", ["odd"]))
        self.assertIsNone(telling([0, 0, 0, 0], "names", list(plainly.WORDS)))

    def test_what_is_told(self):
        self.assertEqual(telling([5, 5], "letters", ["mirrors", "front"]), [("even", 1)])
        self.assertEqual(telling([0, 0, 0, 0], "letters", ["front"]), [("front", 1)])
        self.assertEqual(telling([3, 3, 3], "letters", list(plainly.WORDS)), [("back", 1)])
        self.assertEqual(telling([0, 1, 2], "letters", ["pair"]), [("pair", 0, 1), ("pair", 0, 2), ("pair", 1, 2)])

    def test_four_unlike_letters_in_every_manner(self):
        text = [0, 10 ** 9, 3, 8]
        for manner in plainly.MANNERS:
            for words in [list(plainly.WORDS)] + [[word] for word in plainly.WORDS]:
                self.assertEqual(telling(text, manner, words), first_telling(plain(text, "order"), manner, words))
        corners = [("pair", p, q) for p, q in combinations(range(4), 2)]
        self.assertEqual(telling(text, "letters", ["pair"]), corners)
        self.assertEqual(len(telling(text, "letters", list(plainly.WORDS))), 6)

    def test_what_tells_a_text_has_no_other(self):
        for text in plainly.texts(4)[::3]:
            for manner in plainly.MANNERS:
                found = telling(text, manner, list(plainly.WORDS))
                if found is None:
                    continue
                things = [(manner, entry, "is", agreement(text, manner, entry)) for entry in found]
                having = [other for other in plainly.texts(4) if first_false(other, things) is None]
                self.assertEqual({tuple(plain(other, manner)) for other in having}, {tuple(plain(text, manner))})


class CallsTest(Calls):
    def test_arguments_stay_and_lists_are_new(self):
        for manner in plainly.MANNERS:
            for word in plainly.WORDS:
                self.check_call(tables, {"size": 4, "manner": manner, "word": word})
            self.check_call(tables, {"size": 0, "manner": manner, "word": "front"})
            for text in LETTER_ROWS.values():
                for words in ([], ["pair", "mirrors"], list(plainly.WORDS)):
                    self.check_call(telling, {"text": list(text), "manner": manner, "words": list(words)})

    def test_wrong_arguments(self):
        self.check_wrong(tables, {"size": 3, "manner": "names", "word": "mirrors"}, WRONG)
        for words in ([], ["front", "mirrors"]):
            self.check_wrong(telling, {"text": [0, 1, 0], "manner": "order", "words": words}, WRONG)


if __name__ == "__main__":
    unittest.main()
