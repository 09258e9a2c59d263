"""[13], [14], [20], [25] (c), and the heading textbehind/letters.py: fewest letters, plainest texts, counts."""

import random
import unittest
from itertools import combinations
from math import comb, factorial, perm

from tests import counting, plainly
from tests.cases import Calls, longer_lists, seen_lists, some_list
from tests.wrongs import GOOD, WRONG
from textbehind import errors
from textbehind.letters import fewest, plainest, texts_with, ways
from textbehind.texts import first_false, plain

# The ways to part so many places into so many groups, and the ways to order them with equal ones.
PARTS = [[1], [0, 1], [0, 1, 1], [0, 1, 3, 1], [0, 1, 7, 6, 1], [0, 1, 15, 25, 10, 1], [0, 1, 31, 90, 65, 15, 1],
         [0, 1, 63, 301, 350, 140, 21, 1], [0, 1, 127, 966, 1701, 1050, 266, 28, 1]]
SAYS_NOTHING = {manner: (manner, ("odd", 0), "is", 0) for manner in plainly.MANNERS}


def unlike(pairs):
    return [("letters", ("pair", min(p, q), max(p, q)), "is", 0) for p, q in pairs]


def alike(pairs):
    return [("letters", ("pair", min(p, q), max(p, q)), "least", 1) for p, q in pairs]


def mixed_lists():
    """Lists of all manners together, most of them of few things that are true of one text."""
    for manners in (["names", "order"], ["letters", "order"], list(plainly.MANNERS)):
        chance = random.Random(f"mixed {manners}")
        for size in (1, 2, 3, 4, 5):
            for _ in range(6):
                yield size, some_list(chance, size, manners, plainly.ENTRY_WORDS, 4, truth=0.9)


def all_lists():
    return list(seen_lists()) + list(mixed_lists()) + list(longer_lists())


def is_ordered(things):
    return any(thing[0] == "order" for thing in things)


class ExampleTest(unittest.TestCase):
    def test_the_rows_of_the_interface(self):
        corners = unlike([(0, 1), (1, 2), (0, 2)])
        self.assertEqual(fewest(4, corners), 3)
        self.assertEqual(plainest(4, corners), [0, 1, 2, 0])
        self.assertEqual(ways(4, corners), [0, 0, 0, 3, 1])
        self.assertEqual(texts_with(4, corners, 3), 18)
        told = [("order", ("front", 1), "is", 2), ("letters", ("pair", 0, 1), "is", 0)]
        self.assertEqual(plainest(3, told), [0, 1, 2])


class FewestTest(unittest.TestCase):
    def test_held_against_all_texts(self):
        for size, things in all_lists():
            few, text = fewest(size, things), plainest(size, things)
            self.assertEqual(few, counting.fewest(size, things), (size, things))
            self.assertEqual(text, counting.plainest(size, things), (size, things))
            if few is None:
                self.assertIsNone(text)
                continue
            self.assertIs(type(few), int)
            self.assertIs(first_false(text, things), None)
            self.assertEqual(sorted(set(text)), list(range(few)))
            if not is_ordered(things):
                self.assertEqual(plain(text, "names"), text)

    def test_unlike_pairs_are_colouring(self):
        for many in range(1, 9):
            for first in (0, 12 - many):
                clique = unlike(combinations(range(first, first + many), 2))
                self.assertEqual(fewest(12, clique), many)
                behind = max(12 - many - first, 0)
                self.assertEqual(plainest(12, clique), [0] * first + list(range(many)) + [0] * behind)
        for size in range(3, 13):
            ring = unlike([(p, (p + 1) % size) for p in range(size)])
            self.assertEqual(fewest(size, ring), 2 + size % 2)
            last = [2] if size % 2 else []
            self.assertEqual(plainest(size, ring), ([0, 1] * size)[:size - len(last)] + last)

    def test_four_letters_without_a_corner_of_three(self):
        # The graph of Groetzsch: 11 places, 20 unlike pairs, no three of them each unlike the others.
        outer = [(k, (k + 1) % 5) for k in range(5)]
        inner = [(a, 5 + b) for a, b in outer] + [(b, 5 + a) for a, b in outer]
        pairs = outer + inner + [(5 + k, 10) for k in range(5)]
        chance = random.Random("ring")
        for _ in range(5):
            at = chance.sample(range(12), 11)
            told = unlike([(at[a], at[b]) for a, b in pairs])
            self.assertEqual(fewest(12, told), 4)
            text = plainest(12, told)
            self.assertIsNone(first_false(text, told))
            self.assertEqual(sorted(set(text)), [0, 1, 2, 3])

    def test_the_first_one_of_the_fewest_letters(self):
        told = unlike([(0, 3), (1, 4), (2, 3), (3, 4), (2, 4)])
        self.assertEqual(plainest(5, told), [0, 0, 0, 1, 2])
        told = unlike([(0, 1), (0, 2), (1, 3), (2, 3)])
        self.assertEqual(plainest(4, told), [0, 1, 1, 0])
        # Taking the least letter at each place would need three letters here.
        told = unlike([(0, 3), (3, 1), (1, 2)])
        self.assertEqual([fewest(4, told), plainest(4, told)], [2, [0, 0, 1, 1]])
        told = unlike([(0, 3), (1, 2), (2, 3)])
        self.assertEqual([fewest(4, told), plainest(4, told)], [2, [0, 1, 0, 1]])

    def test_joined_and_chosen_letters(self):
        told = [("letters", ("pair", 0, 2), "least", 4), ("letters", ("front", 1), "most", 3)]
        self.assertEqual(plainest(6, told), [0, 1, 0, 1, 0, 1])
        told = [("letters", ("front", 1), "most", 3)]
        self.assertEqual(plainest(6, told), [0, 0, 0, 0, 1, 0])
        told = [("letters", ("front", 1), "most", 4), ("letters", ("pair", 3, 5), "least", 1)]
        self.assertEqual(plainest(6, told), [0, 0, 0, 0, 1, 0])
        told = [("letters", ("front", 1), "is", 3)]
        self.assertEqual(plainest(6, told), [0, 0, 0, 0, 1, 0])

    def test_order_lists_take_the_first_text_of_all_orders(self):
        told = [("order", ("pair", 0, 1), "least", 2)]
        self.assertEqual(plainest(3, told), [0, 0, 0])
        rise = unlike([(0, 1)]) + told
        self.assertEqual(plainest(4, rise), [0, 1, 2, 0])
        falls = [("order", ("pair", 0, 2), "is", 1)] + unlike([(0, 1), (2, 3), (1, 2)])
        self.assertEqual(plainest(4, falls), counting.plainest(4, falls))
        self.assertEqual(fewest(5, [("order", ("front", 1), "is", 4)] + unlike([(0, 1)])), 5)

    def test_names_lists(self):
        self.assertEqual(plainest(7, [("names", ("front", 1), "is", 6)]), [0] * 7)
        told = [("names", ("front", 1), "is", 6)] + unlike([(0, 1)])
        self.assertEqual(plainest(7, told), [0, 1, 0, 1, 0, 1, 0])
        self.assertEqual(fewest(7, told + unlike([(0, 2), (0, 3), (0, 4), (0, 5), (0, 6)])), 7)
        self.assertEqual(fewest(7, told + unlike([(0, 2)])), 3)


class WaysTest(unittest.TestCase):
    def test_ways_held_against_all_texts(self):
        for size, things in all_lists():
            found = ways(size, things)
            self.assertEqual(found, counting.ways(size, things), (size, things))
            self.assertEqual(len(found), size + 1)

    def test_texts_held_against_all_texts(self):
        for size, things in all_lists():
            for count in range(size + 3):
                found = texts_with(size, things, count)
                if size <= 3 or size == 4 and count <= 4:
                    self.assertEqual(found, counting.over(size, things, count), (size, things, count))
                elif size == 5 and count <= 5:
                    having = counting.texts_with_list(size, things)
                    self.assertEqual(found, len([text for text in having if max(text) < count]))

    def test_texts_are_told_by_ways(self):
        for size, things in all_lists():
            many = ways(size, things)
            for count in (0, 1, 2, size, size + 1, 10, 1000, 10 ** 6):
                times = comb if is_ordered(things) else perm
                told = sum(number * times(count, j) for j, number in enumerate(many))
                self.assertEqual(texts_with(size, things, count), told)

    def test_no_told_thing(self):
        for size in range(9):
            self.assertEqual(ways(size, []), PARTS[size])
            for count in (0, 1, 2, 7, 10 ** 6):
                self.assertEqual(texts_with(size, [], count), count ** size)
        for size in range(1, 8):
            self.assertEqual(ways(size, [SAYS_NOTHING["letters"]]), PARTS[size])
            self.assertEqual(ways(size, [SAYS_NOTHING["names"]]), PARTS[size])
            self.assertEqual(texts_with(size, [SAYS_NOTHING["names"]], 10 ** 6), 10 ** (6 * size))

    def test_order_lists_are_not_divided(self):
        for size in range(1, 6):
            told = [SAYS_NOTHING["order"]]
            self.assertEqual(ways(size, told), [factorial(j) * PARTS[size][j] for j in range(size + 1)])
            for count in (0, 1, 2, 7, 10 ** 6):
                self.assertEqual(texts_with(size, told, count), count ** size)
        rising = unlike([(0, 1)]) + [("order", ("front", 1), "least", 3)]
        self.assertEqual(ways(4, rising), [0, 0, 0, 0, 2])
        self.assertEqual([texts_with(4, rising, count) for count in range(7)], [0, 0, 0, 0, 2, 10, 30])


class EdgesTest(unittest.TestCase):
    def test_no_letters(self):
        self.assertEqual([fewest(0, []), plainest(0, []), ways(0, [])], [0, [], [1]])
        self.assertEqual([texts_with(0, [], count) for count in (0, 1, 5, 10 ** 6)], [1, 1, 1, 1])

    def test_one_letter(self):
        for manner in plainly.MANNERS:
            bounds = [(manner, ("odd", 0), "most", 0), (manner, ("odd", 0), "least", 0)]
            for told in ([], [SAYS_NOTHING[manner]], bounds):
                self.assertEqual([fewest(1, told), plainest(1, told), ways(1, told)], [1, [0], [0, 1]])
                self.assertEqual([texts_with(1, told, count) for count in (0, 1, 5)], [0, 1, 5])

    def test_impossible_lists(self):
        impossible = [unlike([(0, 1)]) + alike([(0, 1)]), [("names", ("even", 2), "is", 0)],
                      [("order", ("even", 2), "most", 0)],
                      [("letters", ("pair", 0, 1), "is", 3), ("order", ("even", 1), "is", 0)],
                      unlike([(0, 3)]) + alike([(0, 1), (1, 2), (2, 3)])]
        for told in impossible:
            self.assertIsNone(fewest(4, told))
            self.assertIsNone(plainest(4, told))
            self.assertEqual(ways(4, told), [0, 0, 0, 0, 0])
            self.assertEqual([texts_with(4, told, count) for count in (0, 1, 4, 10 ** 6)], [0, 0, 0, 0])

    def test_things_that_say_nothing(self):
        for manner in plainly.MANNERS:
            for word in plainly.ENTRY_WORDS:
                for entry in plainly.entries(4, word):
                    told = [(manner, entry, "least", 0), (manner, entry, "most", plainly.room(4, entry))]
                    self.assertEqual([fewest(4, told), plainest(4, told)], [1, [0] * 4])
                    self.assertEqual(texts_with(4, told, 3), 81)
                    self.assertEqual(texts_with(4, told, 0), 0)


class CallsTest(Calls):
    GOOD_LISTS = [[GOOD], [], unlike([(0, 1), (1, 2)]), unlike([(0, 1)]) + alike([(0, 1)]),
                  [("names", ("odd", 1), "is", 1)], [("order", ("front", 1), "is", 2), GOOD], [SAYS_NOTHING["order"]]]

    def test_arguments_stay_and_lists_are_new(self):
        for things in self.GOOD_LISTS:
            for function in (fewest, plainest, ways):
                self.check_call(function, {"size": 4, "things": list(things)})
            for count in (0, 1, 4, 10 ** 6):
                self.check_call(texts_with, {"size": 4, "things": list(things), "count": count})

    def test_wrong_arguments(self):
        for function in (fewest, plainest, ways):
            self.check_wrong(function, {"size": 4, "things": [GOOD]}, WRONG)
        self.check_wrong(texts_with, {"size": 4, "things": [GOOD], "count": 3}, WRONG)

    def test_a_wrong_number_is_an_error_for_impossible_lists_too(self):
        told = unlike([(0, 1)]) + alike([(0, 1)])
        for count in (True, False, None, -1, "3", [3], (3,)):
            for things in (told, [], [GOOD]):
                self.check_raises(errors.InvalidCount, texts_with, {"size": 4, "things": things, "count": count})


if __name__ == "__main__":
    unittest.main()
