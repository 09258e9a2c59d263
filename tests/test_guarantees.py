"""[25] and [1]: what is promised over the whole program, on drawn lists and tables."""

import random
import unittest
from itertools import product

from tests import counting, plainly, reading, tabling
from tests.cases import some_list
from textbehind.complete import ends, fewest_for, first_wrong, next_ends, plainest_for, texts_over
from textbehind.console import Console
from textbehind.counts import tables
from textbehind.letters import fewest, plainest, texts_with, ways
from textbehind.lists import alike, can_be, classes, clashes, first_different, follows, freest, halves, is_possible
from textbehind.lists import struck, thinned
from textbehind.live import LeanSheet, Sheet
from textbehind.papers import judge, refusal
from textbehind.texts import first_false, room, table, told
from textbehind.words import read_list, read_row, show_list, show_row, show_thing

MIXED = [["letters", "names"], ["letters", "order"], ["names", "order"], list(plainly.MANNERS)]


def drawn_lists(name, each=16, greatest=5, manners_of=None):
    """Drawn lists of each manner alone and of several ones together: (size, things)."""
    for manners in manners_of or [[manner] for manner in plainly.MANNERS] + MIXED:
        chance = random.Random(f"{name} {manners}")
        for turn in range(each):
            size = chance.randint(0, greatest)
            words = chance.choice([plainly.ENTRY_WORDS, [chance.choice(plainly.ENTRY_WORDS)]])
            yield size, some_list(chance, size, manners, words, chance.randint(0, 6), chance.choice([1, 0.8, 0.4]))


def drawn_tables(name, sizes, each=6):
    """Drawn complete tables in letters, right ones and such with one value changed: (word, size, row)."""
    for word in tabling.WORDS:
        chance = random.Random(f"{name} {word}")
        for size in sizes:
            for turn in range(each if size >= tabling.SHORTEST[word] else 0):
                row = table([chance.randrange(1 + turn % 4) for _ in range(size)], "letters", word)
                if row and turn % 3 == 2:
                    at = chance.randrange(len(row))
                    row[at] = chance.randint(0, plainly.room(size, plainly.entries(size, word)[at]))
                yield word, size, row


class TextOrPaperTest(unittest.TestCase):
    """(a) A list has a text or a paper, never both."""

    def check_list(self, size, things, most):
        paper, text = refusal(size, things, most=most), plainest(size, things)
        if text is not None and (most is None or len(set(text)) <= most):
            self.assertIsNone(first_false(text, things))
            self.assertIsNone(paper, (size, things, most))
            return
        self.assertTrue(reading.is_paper(size, things, paper, most), (size, things, most))
        self.assertIs(judge(size, things, paper, most=most), True)

    def test_a_text_or_a_paper(self):
        for size, things in drawn_lists("paper"):
            for most in (None, 0, 1, 2, 3, size, size + 1):
                self.check_list(size, things, most)

    def test_longer_lists(self):
        for manners, size in ((["letters"], 8), (["names"], 6), (["names", "letters"], 6)):
            chance = random.Random(f"longer {manners}")
            for turn in range(12):
                things = some_list(chance, size, manners, plainly.ENTRY_WORDS, 10, chance.choice([1, 0.9, 0.6]))
                for most in (None, 1, 2, 3):
                    self.check_list(size, things, most)

    def test_what_has_a_text_has_no_paper(self):
        cases = list(drawn_lists("never", 12, 4))
        papers = [(size, refusal(size, things, most=most)) for size, things in cases for most in (None, 1)]
        for size, things in cases:
            if not plainly.having(size, things):
                continue
            few = counting.fewest(size, things)
            for paper in [paper for length, paper in papers if length == size and paper is not None]:
                self.assertIs(judge(size, things, paper), False)
                self.assertIs(judge(size, things, paper, most=few), False)

    def test_tables_as_lists(self):
        for word, size, row in drawn_tables("table", (2, 4, 6)):
            things = told(size, "letters", word, row)
            self.assertEqual(refusal(size, things) is None, first_wrong(word, row) is None)
            self.check_list(size, things, None)


class FreestTest(unittest.TestCase):
    """(b) The freest text of a possible letters list has it, and every other one comes of it; mixed tables."""

    def check_freest(self, size, things):
        having = plainly.texts_in(size, plainly.having(size, things))
        found = freest(size, things)
        self.assertEqual(found is None, not having)
        if found is None:
            return
        self.assertIsNone(first_false(found, things))
        for text in having:
            # Giving letters one name: where the freest text has one letter, the other one has one letter, too.
            names = dict(zip(found, text))
            self.assertEqual([names[letter] for letter in found], text)

    def test_drawn_letters_lists(self):
        for size, things in drawn_lists("freest", 60, 5, [["letters"]]):
            self.check_freest(size, things)

    def test_mixed_tables_are_lists(self):
        chance = random.Random("mixed tables")
        for turn in range(40):
            size = chance.randint(1, 6)
            one, other = [[chance.randrange(2) for _ in range(size)] for _ in range(2)]
            words = chance.sample(tabling.WORDS, 2)
            things = [thing for word, text in zip(words, (one, chance.choice([one, other])))
                      for thing in told(size, "letters", word, table(text, "letters", word))]
            self.check_freest(size, things)
            self.assertIs(is_possible(size, things), plainly.having(size, things) != 0)


class CountsTest(unittest.TestCase):
    """(c) The counts of [14] and the products of [17] are the numbers of texts for all numbers of letters."""

    def test_counts_of_lists_in_each_manner(self):
        for size, things in drawn_lists("counts", 10, 4):
            many = ways(size, things)
            self.assertEqual(many, counting.ways(size, things))
            for count in range(6):
                self.assertEqual(texts_with(size, things, count), counting.over(size, things, count))
            self.check_polynomial(size, [texts_with(size, things, count) for count in range(size + 9)])

    def test_products_of_tables(self):
        for word, size, row in drawn_tables("products", range(6)):
            texts = [text for text in product(range(5), repeat=size) if table(list(text), "letters", word) == row]
            if first_wrong(word, row) is not None:
                self.assertEqual(texts, [])
                continue
            for count in range(6):
                over = [text for text in texts if max(text, default=-1) < count]
                self.assertEqual(texts_over(word, row, count), len(over))
            greatest = fewest_for(word, row)
            self.check_polynomial(size, [texts_over(word, row, greatest + count) for count in range(size + 3)])

    def check_polynomial(self, size, numbers):
        """A number of texts is for all numbers of letters a sum of powers, at most that of the length."""
        for _ in range(size + 1):
            numbers = [later - earlier for earlier, later in zip(numbers, numbers[1:])]
        self.assertEqual(set(numbers), {0})

    def test_all_tables_together_are_all_texts(self):
        for word in tabling.WORDS:
            for size in range(tabling.SHORTEST[word], 7):
                rows = tables(size, "letters", word)
                for count in (0, 1, 2, 5, 10 ** 6):
                    self.assertEqual(sum(texts_over(word, row, count) for row in rows), count ** size)

    def test_all_values_of_an_entry_together_are_the_list(self):
        for size, things in drawn_lists("values", 6, 4):
            for manner in {thing[0] for thing in things}:
                for word in plainly.ENTRY_WORDS:
                    for entry in plainly.entries(size, word)[:2]:
                        lists = [things + [(manner, entry, "is", value)] for value in range(room(size, entry) + 1)]
                        for count in (1, 3, 10 ** 6):
                            self.assertEqual(sum(texts_with(size, some, count) for some in lists),
                                             texts_with(size, things, count))


class TablesAsListsTest(unittest.TestCase):
    """(d) Complete tables agree with the same table told as a list."""

    def test_fewest_letters_products_and_plainest_texts(self):
        for word, size, row in drawn_tables("as lists", range(9), 8):
            things = told(size, "letters", word, row)
            if first_wrong(word, row) is not None:
                self.assertEqual([fewest(size, things), plainest(size, things)], [None, None])
                self.assertEqual(texts_with(size, things, 10 ** 6), 0)
                continue
            self.assertEqual(fewest_for(word, row), fewest(size, things))
            for count in (0, 1, 2, 3, 7, 10 ** 6):
                self.assertEqual(texts_over(word, row, count), texts_with(size, things, count))
            if word != "back":
                self.assertEqual(plainest_for(word, row), plainest(size, things))
            self.assertEqual(table(plainest_for(word, row), "letters", word), row)

    def test_texts_of_12_letters(self):
        for word, size, row in drawn_tables("of 12", (12,), 9):
            things = told(size, "letters", word, row)
            if first_wrong(word, row) is None:
                self.assertEqual(fewest_for(word, row), fewest(size, things))
                if word != "back":
                    self.assertEqual(plainest_for(word, row), plainest(size, things))
                self.assertEqual(len(set(plainest_for(word, row))), fewest(size, things))


class NextTest(unittest.TestCase):
    """(e) What can come next is what longer texts have."""

    def test_ends_of_longer_texts(self):
        chance = random.Random("next")
        for size in range(7):
            longer = {}
            for text in tabling.naming_texts(size + 1):
                row = ends(table(text, "letters", "front"))
                longer.setdefault(tuple(row[:-1]), set()).add(row[-1])
            for row in chance.sample(sorted(longer), min(len(longer), 30)):
                self.assertEqual(next_ends(list(row)), sorted(longer[row]))


class AlikeTest(unittest.TestCase):
    """(f) Lists with the same texts are alike, others are parted by a text."""

    def check_two(self, size, things, other):
        same = plainly.having(size, things) == plainly.having(size, other)
        text = first_different(size, things, other)
        self.assertEqual([alike(size, things, other), alike(size, other, things), text is None], [same] * 3)
        if text is not None:
            self.assertEqual(len(text), size)
            self.assertNotEqual(first_false(text, things) is None, first_false(text, other) is None)

    def test_drawn_lists_two_by_two(self):
        by_size = {}
        for size, things in drawn_lists("alike", 14, 5):
            by_size.setdefault(size, []).append(things)
        for size, lists in by_size.items():
            for things, other in zip(lists, lists[1:] + lists[:1]):
                self.check_two(size, things, other)

    def test_lists_with_the_same_texts(self):
        chance = random.Random("same")
        for size, things in drawn_lists("same", 14, 5):
            turned = chance.sample(things, len(things))
            again = read_list(show_list(things))
            for other in (turned, thinned(size, things), halves(size, things), things + things, again):
                self.assertTrue(alike(size, things, other))
                self.check_two(size, things, other)

    def test_lists_with_one_thing_more_or_less(self):
        for size, things in drawn_lists("less", 10, 5):
            for at in range(len(things)):
                rest = things[:at] + things[at + 1:]
                self.check_two(size, things, rest)
                self.assertIs(alike(size, things, rest), follows(size, rest, things[at]))


class OverviewTest(unittest.TestCase):
    """[1] From tables that are told, unread and wrong in part, to what is surely so, in every form of asking."""

    def unread(self, chance, row):
        return [None if chance.random() < 0.3 else value for value in row]

    def test_unread_tables_to_texts(self):
        chance = random.Random("unread")
        for manner in plainly.MANNERS:
            for word in plainly.WORDS:
                text = [chance.randrange(3) for _ in range(5)]
                row = read_row(show_row(self.unread(chance, table(text, manner, word))))
                things = told(5, manner, word, row)
                self.assertIsNone(first_false(text, things))
                self.assertTrue(is_possible(5, things))
                self.assertIsNone(refusal(5, things))
                self.assertIsNone(first_false(plainest(5, things), things))
                self.assertLessEqual(fewest(5, things), len(set(text)))
                for group in classes(5, things):
                    self.assertEqual(len({text[place] for place in group}), 1)
                for entry, value in zip(plainly.entries(5, word), table(text, manner, word)):
                    self.assertIn(value, can_be(5, things, manner, entry))

    def test_wrong_tables(self):
        chance = random.Random("wrong")
        refused = 0
        for manner in plainly.MANNERS:
            for turn in range(20):
                size = 4
                things = some_list(chance, size, [manner], plainly.ENTRY_WORDS, 7, 0.5)
                if is_possible(size, things):
                    continue
                refused += 1
                self.assertTrue(judge(size, things, refusal(size, things)))
                self.assertTrue(clashes(size, things))
                for indexes in struck(size, things):
                    left = [thing for at, thing in enumerate(things) if at not in indexes]
                    self.assertIsNone(first_false(plainest(size, left), left))
        self.assertGreater(refused, 20)

    def test_sheets_and_consoles_answer_as_the_functions(self):
        for size, things in drawn_lists("sheets", 6, 5):
            sheet, lean, console = Sheet(size), LeanSheet(size), Console()
            console.say(f"text {size}")
            kept, thin = [], []
            for thing in things:
                if not is_possible(size, kept + [thing]):
                    continue
                kept.append(thing)
                self.assertEqual([sheet(thing), console.say("tell " + show_thing(thing))], [len(kept), str(len(kept))])
                if not follows(size, thin, thing):
                    thin.append(thing)
                    self.assertEqual(lean(thing), len(thin))
            self.assertEqual([sheet.things, lean.things], [kept, thin])
            self.assertTrue(alike(size, sheet.things, lean.things))
            self.assertEqual(read_list(console.say("things").replace("; ", "\n")), kept)
            self.assertEqual(read_row(console.say("plain")), plainest(size, kept))
            self.assertEqual([sheet.plainest(), lean.plainest()], [plainest(size, kept)] * 2)
            self.assertEqual(console.say("letters"), str(fewest(size, kept)))


if __name__ == "__main__":
    unittest.main()
