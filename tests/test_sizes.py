"""[3]: the greatest lists and the longest texts that callers may pass are answered, and rightly."""

import random
import unittest

from tests import plainly
from tests.cases import some_list
from textbehind.lists import alike, apart, can_be, classes, clashes, first_different, follows
from textbehind.lists import freest, halves, is_possible, struck, thinned
from textbehind.texts import agreement, first_false, room, table, told


def full_list(chance, size, manners, count, truth=1):
    return some_list(chance, size, manners, plainly.ENTRY_WORDS, count, truth)


def ready_lists(size, manners):
    """Lists of 40 things: true ones, ones that say nothing, ones that say almost all, impossible ones."""
    chance = random.Random(f"{size} {manners}")
    entries = [entry for word in plainly.ENTRY_WORDS for entry in plainly.entries(size, word)]
    yield full_list(chance, size, manners, 40)
    yield [(chance.choice(manners), chance.choice(entries), "least", 0) for _ in range(40)]
    yield [(chance.choice(manners), entry, "most", room(size, entry)) for entry in chance.choices(entries, k=40)]
    yield [(chance.choice(manners), entry, "least", room(size, entry)) for entry in chance.choices(entries, k=40)]
    yield full_list(chance, size, manners, 40, 0.5)


class SizesTest(unittest.TestCase):
    def check_list(self, size, things, manner):
        """Answers that are surely right, whatever the list is."""
        possible = is_possible(size, things)
        thin = thinned(size, things)
        self.assertEqual([thing for thing in thin if thing not in things], [])
        self.assertIs(is_possible(size, thin), possible)
        for other in (thin, halves(size, things)):
            self.assertTrue(alike(size, things, other))
        self.assertTrue(all(follows(size, thin, thing) for thing in things))
        for entry in (("front", 1), ("even", size // 2)):
            values = can_be(size, things, manner, entry)
            self.assertEqual(len(values) > 0, possible)
            if len(values) == 1:
                self.assertTrue(follows(size, things, (manner, entry, "is", values[0])))
        if possible:
            groups, parted = classes(size, things), apart(size, things)
            self.assertEqual(sorted(place for group in groups for place in group), list(range(size)))
            least = {place: group[0] for group in groups for place in group}
            self.assertEqual([pair for pair in parted if least[pair[0]] == least[pair[1]]], [])
            self.assertEqual(parted, sorted(set(parted)))

    def test_letters_lists_of_40_things_in_texts_of_60(self):
        for things in ready_lists(60, ["letters"]):
            self.check_list(60, things, "letters")
            found = freest(60, things)
            if found is not None:
                self.assertIsNone(first_false(found, things))

    def test_names_lists_of_40_things_in_texts_of_7(self):
        for manners in (["names"], ["names", "letters"]):
            for things in ready_lists(7, manners):
                self.assertIs(is_possible(7, things), plainly.having(7, things) != 0)
                self.check_list(7, things, "names")

    def test_order_lists_of_40_things_in_texts_of_5(self):
        for manners in (["order"], list(plainly.MANNERS)):
            for things in ready_lists(5, manners):
                self.assertIs(is_possible(5, things), plainly.having(5, things) != 0)
                self.check_list(5, things, "order")

    def test_clashes_and_struck_of_8_things_in_texts_of_12(self):
        chance = random.Random("12")
        for turn in range(40):
            things = full_list(chance, 12, ["letters"], 8, 0.5)
            found = clashes(12, things)
            for clash in found:
                self.assertFalse(is_possible(12, [things[k] for k in clash]))
                for left in clash:
                    self.assertTrue(is_possible(12, [things[k] for k in clash if k != left]))
            for indexes in plainly.subsets(len(things)):
                has_one = any(all(k in indexes for k in clash) for clash in found)
                self.assertIs(is_possible(12, [things[k] for k in indexes]), not has_one)
            self.assertEqual(found, sorted(found, key=lambda clash: (len(clash), clash)))
            # What is struck meets every clash.
            meeting = [s for s in plainly.subsets(len(things)) if all(any(k in clash for k in s) for clash in found)]
            self.assertEqual(struck(12, things), [s for s in meeting if len(s) == len(meeting[0])])

    def test_clashes_and_struck_of_names_and_order(self):
        for size, manner in ((7, "names"), (5, "order")):
            chance = random.Random(manner)
            for turn in range(4):
                things = full_list(chance, size, [manner, "letters"], 8, 0.4)
                self.assertEqual(clashes(size, things), plainly.clashes(size, things))
                self.assertEqual(struck(size, things), plainly.struck(size, things))

    def test_first_different_in_texts_of_12(self):
        chance = random.Random("different")
        for turn in range(40):
            things, other = [full_list(chance, 12, ["letters"], 40 if turn & 1 else 4) for _ in range(2)]
            for one, two in ((things, other), (things, thinned(12, things)), (things, []), (things, things[1:])):
                text = first_different(12, one, two)
                self.assertIs(text is None, alike(12, one, two))
                if text is None:
                    self.assertTrue(all(follows(12, one, thing) for thing in two))
                    self.assertTrue(all(follows(12, two, thing) for thing in one))
                    continue
                self.assertTrue(len(text) == 12 and all(0 <= letter < 12 for letter in text))
                self.assertNotEqual(first_false(text, one) is None, first_false(text, two) is None)

    def test_whole_tables_of_long_texts(self):
        chance = random.Random("whole")
        text = [chance.randrange(2) for _ in range(40)]
        for word in ("front", "back", "odd", "even"):
            things = told(40, "letters", word, table(text, "letters", word))
            found = freest(40, things)
            self.assertEqual(table(found, "letters", word), table(text, "letters", word))
            self.assertEqual(len(set(zip(found, text))), len(set(found)))
            for entry in plainly.entries(40, word):
                self.assertEqual(can_be(40, things, "letters", entry), [agreement(text, "letters", entry)])

    def test_somewhat_longer_texts_are_answered(self):
        chance = random.Random("beyond")
        for size, manner in ((80, "letters"), (8, "names"), (6, "order")):
            things = full_list(chance, size, [manner], 12)
            self.assertTrue(is_possible(size, things))
            self.check_list(size, things, manner)


if __name__ == "__main__":
    unittest.main()
