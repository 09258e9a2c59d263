"""[3]: the greatest lists, tables, papers and numbers of papers.py, letters.py and complete.py are answered."""

import random
import unittest
from itertools import combinations

from tests import counting, plainly, reading, tabling
from tests.cases import some_list
from textbehind.complete import bars, beginning, ends, fewest_for, first_wrong, fronts_of, next_ends
from textbehind.complete import plainest_for, texts_over, written
from textbehind.letters import fewest, plainest, texts_with, ways
from textbehind.lists import is_possible
from textbehind.papers import judge, refusal
from textbehind.texts import first_false, table, told


def full_lists(size, manners, turns, truths=(1, 0.97, 0.9, 0.5)):
    """Lists of 40 things, most of them true of one text."""
    chance = random.Random(f"great {size} {manners}")
    for turn in range(turns):
        yield some_list(chance, size, manners, plainly.ENTRY_WORDS, 40, truths[turn % len(truths)])


def unlike(places):
    return [("letters", ("pair", p, q), "is", 0) for p, q in combinations(places, 2)]


class PapersTest(unittest.TestCase):
    def check_paper(self, size, things, most, paper):
        self.assertTrue(reading.is_paper(size, things, paper, most))
        self.assertIs(judge(size, things, paper, most=most), True)
        self.assertLessEqual(reading.nodes(paper), 6000)
        self.assertLessEqual(reading.depth(paper), 12)
        self.assertLessEqual(max([len(chain) for chain in reading.chains(paper)], default=0), 60)

    def test_letters_lists_in_texts_of_60(self):
        refused = 0
        for things in full_lists(60, ["letters"], 60):
            paper = refusal(60, things)
            self.assertIs(paper is None, is_possible(60, things))
            if paper is not None:
                refused += 1
                self.check_paper(60, things, None, paper)
        self.assertGreater(refused, 20)

    def test_the_longest_chains(self):
        told_things = [("letters", ("front", 1), "least", 59), ("letters", ("pair", 0, 59), "is", 0)]
        paper = refusal(60, told_things)
        self.check_paper(60, told_things, None, paper)
        self.assertEqual([len(chain) for chain in reading.chains(paper)], [59])
        for thing in (("letters", ("even", 30), "most", 29), ("letters", ("odd", 30), "most", 28),
                      ("letters", ("front", 1), "most", 58), ("letters", ("back", 0), "most", 0)):
            self.check_paper(60, [told_things[0], thing], None, refusal(60, [told_things[0], thing]))

    def test_letters_lists_with_a_limit_in_texts_of_8(self):
        for things in full_lists(8, ["letters"], 24):
            few = fewest(8, things)
            for most in (None, 0, 1, 2, 3, 5, 7, 8, 9):
                paper = refusal(8, things, most=most)
                self.assertIs(paper is None, few is not None and (most is None or few <= most))
                if paper is not None:
                    self.check_paper(8, things, most, paper)

    def test_the_widest_papers(self):
        for many in range(2, 9):
            for first in (0, 8 - many):
                things = unlike(range(first, first + many))
                for most in range(many):
                    self.check_paper(8, things, most, refusal(8, things, most=most))
                self.assertIsNone(refusal(8, things, most=many))
        for size, manner in ((7, "names"), (5, "order")):
            for sort in ("is", "most"):
                never = [(manner, ("pair", size - 2, size - 1), sort, 0)]
                self.check_paper(size, never, None, refusal(size, never))
                self.check_paper(size, never, size - 1, refusal(size, never, most=size - 1))

    def test_names_lists_of_7_and_order_lists_of_5(self):
        for size, manners in ((7, ["names"]), (7, ["names", "letters"]), (5, ["order"]), (5, list(plainly.MANNERS))):
            for things in full_lists(size, manners, 8):
                few = counting.fewest(size, things)
                for most in (None, 0, 1, 2, 4, size, size + 1):
                    paper = refusal(size, things, most=most)
                    self.assertIs(paper is None, few is not None and (most is None or few <= most))
                    if paper is not None:
                        self.check_paper(size, things, most, paper)

    def great_paper(self, leaf, wide, deep, groups=()):
        """A paper that places so many places in all ways, and in its last branches more of them."""
        groups = list(groups)
        placed = sum(len(group) for group in groups)
        if placed == deep or placed >= wide and len(groups) < placed:
            return leaf
        ways_on = reading.goes_on(groups, placed, False, None)
        return ("place", placed, [self.great_paper(leaf, wide, deep, way) for way in ways_on])

    def test_papers_of_6000_nodes_12_within_one_another_with_chains_of_64_pairs(self):
        things = [("letters", ("front", 1), "least", 59), ("letters", ("pair", 0, 58), "is", 1)] + 38 * [
            ("letters", ("even", 30), "least", 3)]
        leaf = ("held", 1, [[(0, step) for step in range(1, 59)] + [(0, 58)] * 6])
        self.assertEqual(len(leaf[2][0]), 64)
        paper = self.great_paper(leaf, 8, 11)
        self.assertEqual([reading.depth(paper), 5296 < reading.nodes(paper) <= 6000], [12, True])
        self.assertIs(judge(60, things, paper), True)
        for bent in (("held", 1, [leaf[2][0][:-1]]), ("held", 10 ** 29, leaf[2]), ("held", 1, [[(10 ** 29, 0)] * 64]),
                     ("held", 1, [[(0, 10 ** 29)] * 64]), ("wrong", 10 ** 29), ("place", 10 ** 29, []),
                     ("joined", 10 ** 29, 10 ** 29, [])):
            self.assertIs(judge(60, things, self.great_paper(bent, 8, 11)), False)
            self.assertIs(judge(60, things, bent), False)

    def test_joined_chains_of_64_pairs(self):
        things = [("letters", ("front", 1), "least", 59), ("letters", ("pair", 0, 59), "is", 0)]
        chain = [(0, step) for step in range(59)]
        for extra in ([], [(0, 58), (0, 58)], [(0, 58), (0, 58)] * 2):
            joined = ("joined", 0, 59, chain + extra)
            paper = ("place", 59, [("place", 0, [("wrong", 1), joined])])
            self.assertIs(judge(60, things, paper), True)
            self.assertIs(judge(60, things, ("place", 59, [("place", 0, [("wrong", 1), joined[:3] + (chain[:-1],)])])),
                          False)


def first_by_choices(size, things, most, firsts=(), place=0):
    """The first text of at most so many letters, by choosing for each place in turn which letter it is like."""
    if place == size:
        return []
    firsts = list(firsts)
    for letter in range(min(len(firsts) + 1, most)):
        if letter < len(firsts):
            more = things + [("letters", ("pair", firsts[letter], place), "least", 1)]
        else:
            more = things + [("letters", ("pair", first, place), "is", 0) for first in firsts]
        if is_possible(size, more):
            new = firsts + [place] if letter == len(firsts) else firsts
            found = first_by_choices(size, more, most, new, place + 1)
            if found is not None:
                return [letter] + found
    return None


class LettersTest(unittest.TestCase):
    def check_plainest(self, size, things):
        text = plainest(size, things)
        few = fewest(size, things)
        if not is_possible(size, things):
            self.assertEqual([text, few], [None, None])
            return
        self.assertEqual(sorted(set(text)), list(range(few)))
        self.assertIsNone(first_false(text, things))
        self.assertEqual(text, first_by_choices(size, things, few))
        self.assertIsNone(first_by_choices(size, things, few - 1))

    def test_fewest_and_plainest_in_texts_of_12(self):
        for things in full_lists(12, ["letters"], 24):
            self.check_plainest(12, things)

    def test_bounds_and_unlike_pairs_in_texts_of_12(self):
        chance = random.Random("bounds")
        entries = [entry for word in plainly.ENTRY_WORDS for entry in plainly.entries(12, word)
                   if plainly.room(12, entry) > 1]
        for turn in range(12):
            share = (0, 0.3, 0.7, 1)[turn % 4]
            things = []
            for _ in range(40):
                entry = chance.choice(entries)
                bound = chance.random() < share
                value = chance.randrange(plainly.room(12, entry)) if bound else 0
                things.append(("letters", entry, "most" if bound else "is", value))
            self.check_plainest(12, things)

    def test_nine_places_each_unlike_the_others(self):
        for first in (0, 1, 3):
            things = unlike(range(first, first + 9)) + [("letters", ("front", 1), "most", 10)] * 4
            self.assertEqual(fewest(12, things), 9)
            self.assertEqual(plainest(12, things), [0] * first + list(range(9)) + [0] * (3 - first))

    def test_ways_and_texts_in_texts_of_8(self):
        for things in full_lists(8, ["letters"], 8):
            texts = [text for text in tabling.naming_texts(8) if first_false(text, things) is None]
            many = [len([text for text in texts if len(set(text)) == j]) for j in range(9)]
            self.assertEqual(ways(8, things), many)
            for count in (0, 1, 2, 5, 8, 9):
                self.assertEqual(texts_with(8, things, count), sum(self.over(count, j) * many[j] for j in range(9)))
            self.assertGreaterEqual(texts_with(8, things, 10 ** 6), len(texts))

    def over(self, count, j):
        found = 1
        for k in range(j):
            found *= count - k
        return found

    def test_names_lists_of_7_and_order_lists_of_5(self):
        for size, manners in ((7, ["names"]), (7, ["names", "letters"]), (5, ["order"]), (5, list(plainly.MANNERS))):
            for things in full_lists(size, manners, 8):
                self.assertEqual(fewest(size, things), counting.fewest(size, things))
                self.assertEqual(plainest(size, things), counting.plainest(size, things))
                self.assertEqual(ways(size, things), counting.ways(size, things))
                self.assertGreaterEqual(texts_with(size, things, 10 ** 6), texts_with(size, things, size))


def long_texts(size, chance):
    """Texts of so many letters: drawn ones, repeated ones, turned ones, all letters alike, all unlike."""
    ruler = [(place & -place).bit_length() - 1 for place in range(1, size + 1)]
    repeated = [chance.randrange(3) for _ in range(chance.randint(2, 9))]
    half = [chance.randrange(2) for _ in range(size // 2)]
    drawn = [[chance.randrange(letters) for _ in range(size)] for letters in (2, 4)]
    return drawn + [(repeated * size)[:size], half + half[::-1], [0] * size, list(range(size)), ruler]


class CompleteTest(unittest.TestCase):
    def test_tables_of_texts_of_200(self):
        for word in tabling.WORDS:
            for text in long_texts(200, random.Random(f"200 {word}")):
                row = table(text, "letters", word)
                self.assertIsNone(first_wrong(word, row))
                found = bars(word, row)
                self.assertEqual(found, self.plain_bars(text, word))
                plainest_text = plainest_for(word, row)
                self.assertEqual(table(plainest_text, "letters", word), row)
                few = max(bar + 1 for bar in found if bar is not None)
                self.assertEqual([fewest_for(word, row), len(set(plainest_text))], [few, few])
                for count in (0, few - 1, few, 10 ** 6):
                    self.assertEqual(texts_over(word, row, count), tabling.product_of(found, count))

    def plain_bars(self, text, word):
        if word == "back":
            return self.plain_bars(text[::-1], "front")[::-1]
        if word == "front":
            fronts = table(text, "letters", "front")
            return [tabling.bar_of_fronts(text, fronts, j) for j in range(len(text))]
        return tabling.bars(text, word)

    def test_wrong_tables_of_texts_of_200(self):
        for word in tabling.WORDS:
            chance = random.Random(f"wrong 200 {word}")
            entries = plainly.entries(200, word)
            for turn in range(3):
                row = table([chance.randrange(2) for _ in range(200)], "letters", word)
                at = chance.randrange(len(row))
                row[at] = chance.randint(0, plainly.room(200, entries[at]))
                wrong = first_wrong(word, row)
                self.assertIs(tabling.is_possible(200, word, row), wrong is None)
                if wrong is not None:
                    self.assertTrue(tabling.is_possible(200, word, row[:wrong]))
                    self.assertFalse(tabling.is_possible(200, word, row[:wrong + 1]))

    def test_tables_of_texts_of_40_are_lists(self):
        for word in ("front", "back", "odd", "even"):
            chance = random.Random(f"40 {word}")
            for text in long_texts(40, chance):
                row = table(text, "letters", word)
                at = chance.randrange(len(row))
                row[at] = chance.randint(0, row[at])
                things = told(40, "letters", word, row)
                wrong = first_wrong(word, row)
                self.assertIs(is_possible(40, things), wrong is None)
                if wrong is not None:
                    self.assertTrue(is_possible(40, things[:wrong]))
                    self.assertFalse(is_possible(40, things[:wrong + 1]))

    def test_tables_and_rows_of_ends_of_texts_of_60(self):
        for manner in plainly.MANNERS:
            for text in long_texts(60, random.Random(f"60 {manner}"))[::2]:
                fronts = table(text, manner, "front")
                row = tabling.row_of_ends(text, manner)
                self.assertEqual(ends(fronts), row)
                self.assertEqual(fronts_of(row), fronts)
                for length in (1, 2, 30, 59, 60):
                    self.assertEqual(beginning(fronts, length), table(text[:length], manner, "front"))

    def test_next_ends_behind_60_values(self):
        for text in long_texts(60, random.Random("next")):
            row = tabling.row_of_ends(text)
            longer = [text + [letter] for letter in range(max(text) + 2)]
            self.assertEqual(next_ends(row), sorted({tabling.row_of_ends(some)[-1] for some in longer}))

    def test_texts_of_60_written_so_often(self):
        times = 10 ** 29 + 7
        for text in long_texts(60, random.Random("written")):
            fronts = table(text, "letters", "front")
            for place in (1, 2, 30, 59, 60, 61, 119, 120):
                expected = table(text * 4, "letters", "front")[place - 1]
                without_bound = expected == 240 - place
                found = written(fronts, times, place)
                self.assertEqual(found, 60 * times - place if without_bound else expected)
                later = 60 * (times - 4) + place
                self.assertEqual(written(fronts, times, later), expected)


if __name__ == "__main__":
    unittest.main()
