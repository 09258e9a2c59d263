"""[15] to [17], [25] (c) and (d), and the part of the heading textbehind/complete.py on complete tables of a word."""

import random
import unittest
from itertools import product

from tests import plainly, tabling
from tests.cases import Calls
from tests.wrongs import NO_COMPLETE_WORDS, NO_ROW_AT_ALL, WRONG, spoilt_rows
from textbehind import errors
from textbehind.complete import bars, fewest_for, first_wrong, plainest_for, texts_over
from textbehind.letters import fewest, plainest, texts_with
from textbehind.lists import is_possible
from textbehind.texts import first_false, table, told

# The lengths of texts of which all rows of values are gone over.
SIZES = {"front": range(1, 7), "back": range(1, 7), "odd": range(0, 8), "even": range(1, 8), "mirrors": range(0, 6)}
ASKING = (bars, fewest_for, plainest_for)


def all_rows():
    """For each word all rows of values that fit texts of some lengths: (word, size, row)."""
    for word, sizes in SIZES.items():
        for size in sizes:
            for row in tabling.fitting_rows(size, word):
                yield word, size, row


def all_tables():
    """All complete tables of these lengths, each with the texts that have it: (word, size, row, texts)."""
    for word, sizes in SIZES.items():
        for size in sizes:
            for row, texts in tabling.texts_by_table(size, word).items():
                yield word, size, list(row), texts


def falling(count, many):
    found = 1
    for k in range(many):
        found *= count - k
    return found


class ExampleTest(unittest.TestCase):
    def test_the_rows_of_the_interface(self):
        row = [0, 1, 3, 0, 1]
        self.assertEqual(bars("front", row), [0, 1, None, None, None, None])
        self.assertEqual(plainest_for("front", row), [0, 1, 0, 0, 1, 0])
        self.assertEqual(texts_over("front", row, 3), 6)
        self.assertEqual(first_wrong("front", [1, 1]), 1)


class FirstWrongTest(unittest.TestCase):
    def test_held_against_all_texts(self):
        for word, size, row in all_rows():
            self.assertEqual(first_wrong(word, row), tabling.first_wrong(size, word, row), (word, row))

    def test_the_four_others_tell_the_same_index(self):
        for word, size, row in all_rows():
            wrong = tabling.first_wrong(size, word, row)
            if wrong is None:
                continue
            for function in ASKING:
                with self.assertRaises(errors.WrongRow) as caught:
                    function(word, row)
                self.assertEqual(caught.exception.index, wrong, (word, row))
            with self.assertRaises(errors.WrongRow) as caught:
                texts_over(word, row, 3)
            self.assertEqual(caught.exception.index, wrong)
            self.assertIs(type(caught.exception), errors.WrongRow)

    def test_rows_that_are_wrong_at_the_first_and_at_the_last_value(self):
        self.assertEqual(first_wrong("front", [1, 1]), 1)
        self.assertEqual(first_wrong("front", [3, 2, 0]), 2)
        self.assertEqual(first_wrong("front", [3, 1, 0]), 1)
        # A value alone always has a text; two values may have none.
        for word, size, row in all_rows():
            wrong = first_wrong(word, row)
            self.assertTrue(wrong is None or 1 <= wrong < len(row))
        self.assertEqual(first_wrong("back", [1, 2, 0]), 2)
        self.assertEqual(first_wrong("back", [1, 2, 3, 0]), 3)
        self.assertEqual(first_wrong("back", [1, 0, 3]), 2)
        self.assertEqual(first_wrong("mirrors", [0, 1, 0, 1, 0]), 3)
        self.assertEqual(first_wrong("mirrors", [0, 1, 1, 0, 0]), 3)
        self.assertEqual(first_wrong("even", [1, 1, 1]), 2)
        self.assertEqual(first_wrong("odd", [0, 1, 2, 0, 0]), 3)

    def test_backs_are_wrong_in_their_own_order(self):
        for size in range(2, 7):
            for row in tabling.fitting_rows(size, "back"):
                wrong, turned = first_wrong("back", row), first_wrong("front", row[::-1])
                self.assertEqual(wrong is None, turned is None)


class BarsTest(unittest.TestCase):
    def test_bars_held_against_every_text_that_has_the_table(self):
        for word, size, row, texts in all_tables():
            found = bars(word, row)
            self.assertEqual(len(found), size)
            for text in texts:
                self.assertEqual(found, tabling.bars(text, word), (word, row, text))

    def test_texts_over_held_against_all_texts(self):
        for word, size, row, texts in all_tables():
            for count in range(size + 3):
                expected = sum(falling(count, len(set(text))) for text in texts)
                self.assertEqual(texts_over(word, row, count), expected, (word, row, count))
                self.assertEqual(expected, tabling.product_of(bars(word, row), count))

    def test_texts_over_held_against_all_texts_over_so_many_letters(self):
        for word in tabling.WORDS:
            for size in range(tabling.SHORTEST[word], 5):
                for count in range(4):
                    found = [tabling.table(list(text), "letters", word) for text in product(range(count), repeat=size)]
                    for row in tabling.fitting_rows(size, word):
                        if row in found:
                            self.assertEqual(texts_over(word, row, count), found.count(row))
                        elif first_wrong(word, row) is None:
                            self.assertEqual(texts_over(word, row, count), 0)

    def test_fewest_letters_held_against_all_texts(self):
        for word, size, row, texts in all_tables():
            few = min(len(set(text)) for text in texts)
            self.assertEqual(fewest_for(word, row), few, (word, row))
            self.assertEqual(texts_over(word, row, few) > 0, True)
            self.assertEqual([texts_over(word, row, count) for count in range(few)], [0] * few)

    def test_a_bar_greater_than_the_number_makes_no_texts(self):
        row = table([0, 1, 0, 2, 0, 1, 0, 3], "letters", "front")
        self.assertEqual(bars("front", row), [0, 1, None, 2, None, None, None, 3])
        self.assertEqual([texts_over("front", row, count) for count in range(7)], [0, 0, 0, 0, 24, 120, 360])
        # Two free places with the bar 3, each of which would be less than none for two letters.
        twice = table([0, 1, 0, 2, 0, 1, 0, 3, 0, 1, 0, 2, 0, 1, 0, 4], "letters", "front")
        self.assertEqual(bars("front", twice).count(3) + bars("front", twice).count(4), 2)
        self.assertEqual([texts_over("front", twice, count) for count in range(4)], [0, 0, 0, 0])

    def test_great_numbers_of_letters(self):
        many = 10 ** 6
        self.assertEqual(texts_over("front", [0] * 5, many), many * (many - 1) ** 5)
        self.assertEqual(texts_over("odd", [0] * 5, many), many ** 2 * (many - 1) ** 3)
        self.assertEqual(texts_over("mirrors", [0] * 9, many), many * (many - 1) * (many - 2) ** 3)
        self.assertEqual(texts_over("back", [], many), many)
        self.assertEqual(texts_over("mirrors", [], many), 1)

    def test_covered_places_and_free_places_without_ends(self):
        self.assertEqual(bars("front", [3, 2, 1]), [0, None, None, None])
        self.assertEqual(bars("back", [1, 2, 3]), [None, None, None, 0])
        self.assertEqual(bars("back", [0, 1, 0]), [2, None, 1, 0])
        self.assertEqual(bars("odd", [0, 1, 1, 0]), [0, 0, None, None])
        self.assertEqual(bars("odd", [0, 0, 0, 0]), [0, 0, 1, 1])
        self.assertEqual(bars("even", [0, 2, 0]), [0, 1, None, None])
        self.assertEqual(bars("mirrors", [0, 0, 1, 0, 0]), [0, 1, None])
        self.assertEqual(bars("mirrors", [0, 0, 0, 0, 0]), [0, 1, 2])

    def test_fewest_letters_of_fronts_are_few(self):
        for size in SIZES["front"]:
            for row in tabling.texts_by_table(size, "front"):
                self.assertLessEqual(fewest_for("front", list(row)), size.bit_length())


class PlainestTest(unittest.TestCase):
    def test_held_against_all_texts(self):
        for word, size, row, texts in all_tables():
            text = plainest_for(word, row)
            self.assertEqual(tabling.table(text, "letters", word), row)
            self.assertEqual(len(set(text)), fewest_for(word, row))
            if word == "back":
                turned = tabling.texts_by_table(size, "front")[tuple(row[::-1])]
                self.assertEqual(text[::-1], min(turned, key=lambda found: (len(set(found)), found)))
            else:
                self.assertEqual(text, min(texts, key=lambda found: (len(set(found)), found)), (word, row))

    def test_backs_take_the_plainest_text_turned(self):
        row = table([1, 1, 0], "letters", "back")
        self.assertEqual(plainest_for("back", row), [1, 1, 0])
        self.assertEqual(plainest(3, told(3, "letters", "back", row)), [0, 0, 1])
        unlike = [row for word, size, row, texts in all_tables() if word == "back" and
                  plainest_for(word, row) != plainest(size, told(size, "letters", word, row))]
        self.assertGreater(len(unlike), 20)
        for row in unlike:
            self.assertEqual(plainest_for("back", row), plainest_for("front", row[::-1])[::-1])

    def test_free_places_take_the_least_letter_that_is_not_barred(self):
        self.assertEqual(plainest_for("front", [0, 1, 0, 1, 0]), [0, 1, 0, 2, 0, 2])
        self.assertEqual(plainest_for("front", [0, 0, 0]), [0, 1, 1, 1])
        self.assertEqual(plainest_for("odd", [0, 0, 0, 0, 0]), [0, 0, 1, 1, 0])
        self.assertEqual(plainest_for("even", [0, 0, 0]), [0, 1, 0, 1])
        self.assertEqual(plainest_for("mirrors", [0] * 9), [0, 1, 2, 0, 1])


class AsAListTest(unittest.TestCase):
    def test_complete_tables_agree_with_the_same_table_told_as_a_list(self):
        for word, size, row, texts in all_tables():
            things = told(size, "letters", word, row)
            self.assertEqual(fewest(size, things), fewest_for(word, row))
            for count in (0, 1, 2, 3, size, 10 ** 6):
                self.assertEqual(texts_with(size, things, count), texts_over(word, row, count))
            if word != "back":
                self.assertEqual(plainest(size, things), plainest_for(word, row))
            else:
                self.assertIsNone(first_false(plainest_for(word, row), things))

    def test_wrong_rows_are_impossible_lists(self):
        for word, size, row in all_rows():
            things = told(size, "letters", word, row)
            wrong = first_wrong(word, row)
            self.assertIs(is_possible(size, things), wrong is None)
            if wrong is not None:
                self.assertTrue(is_possible(size, things[:wrong]))
                self.assertFalse(is_possible(size, things[:wrong + 1]))

    def test_texts_of_12_letters(self):
        chance = random.Random("12")
        for word in tabling.WORDS:
            for letters in (1, 2, 2, 3, 5):
                text = [chance.randrange(letters) for _ in range(12)]
                row = table(text, "letters", word)
                things = told(12, "letters", word, row)
                self.assertEqual(fewest(12, things), fewest_for(word, row))
                if word != "back":
                    self.assertEqual(plainest(12, things), plainest_for(word, row))


class EdgesTest(unittest.TestCase):
    def test_the_empty_row(self):
        for word in ("front", "back", "even"):
            self.assertIsNone(first_wrong(word, []))
            self.assertEqual([bars(word, []), fewest_for(word, []), plainest_for(word, [])], [[0], 1, [0]])
            self.assertEqual([texts_over(word, [], count) for count in (0, 1, 7)], [0, 1, 7])
        for word in ("odd", "mirrors"):
            self.assertIsNone(first_wrong(word, []))
            self.assertEqual([bars(word, []), fewest_for(word, []), plainest_for(word, [])], [[], 0, []])
            self.assertEqual([texts_over(word, [], count) for count in (0, 1, 7)], [1, 1, 1])

    def test_one_value(self):
        for word in ("front", "even"):
            self.assertEqual([bars(word, [0]), plainest_for(word, [0]), fewest_for(word, [0])], [[0, 1], [0, 1], 2])
            self.assertEqual([bars(word, [1]), plainest_for(word, [1]), fewest_for(word, [1])], [[0, None], [0, 0], 1])
        self.assertEqual([bars("back", [0]), plainest_for("back", [0]), fewest_for("back", [0])], [[1, 0], [1, 0], 2])
        self.assertEqual([bars("back", [1]), plainest_for("back", [1])], [[None, 0], [0, 0]])
        for word in ("odd", "mirrors"):
            self.assertEqual([bars(word, [0]), plainest_for(word, [0]), fewest_for(word, [0])], [[0], [0], 1])
        for word in tabling.WORDS:
            self.assertIsNone(first_wrong(word, [0]))
            self.assertEqual(texts_over(word, [0], 0), 0)

    def test_an_even_number_of_values_for_mirrors(self):
        for row in ([0, 0], [0, 1], [0, 0, 0, 0], [0] * 10):
            for function in (first_wrong,) + ASKING:
                with self.assertRaises(errors.InvalidRow):
                    function("mirrors", row)
            with self.assertRaises(errors.InvalidRow):
                texts_over("mirrors", row, 2)


GOOD_ROWS = {"front": [0, 2, 0], "back": [0, 2, 0], "odd": [0, 1, 0, 0], "even": [0, 1, 1], "mirrors": [0, 0, 1, 0, 0]}
WRONG_ROWS = {"front": [1, 2, 0], "back": [0, 2, 1], "odd": [0, 0, 2, 1, 0], "even": [1, 1, 1],
              "mirrors": [0, 1, 0, 1, 0]}


def wrong_for(word):
    row = GOOD_ROWS[word]
    size = len(row) + {"odd": 0, "mirrors": -2}.get(word, 1)
    rooms = [plainly.room(size, entry) for entry in plainly.entries(size, word)]
    rows = NO_ROW_AT_ALL + spoilt_rows(row, rooms) + ([[0, 0], [0, 0, 0, 0]] if word == "mirrors" else [])
    return {**WRONG, "word": (errors.InvalidWord, NO_COMPLETE_WORDS), "row": (errors.InvalidRow, rows)}


class CallsTest(Calls):
    def test_arguments_stay_and_lists_are_new(self):
        for word, row in GOOD_ROWS.items():
            for function in (first_wrong,) + ASKING:
                for passed in (row, []):
                    self.check_call(function, {"word": word, "row": list(passed)})
            for count in (0, 1, 3, 10 ** 6):
                self.check_call(texts_over, {"word": word, "row": list(row), "count": count})
            self.check_call(first_wrong, {"word": word, "row": list(WRONG_ROWS[word])})

    def test_wrong_arguments(self):
        for word, row in GOOD_ROWS.items():
            for function in (first_wrong,) + ASKING:
                self.check_wrong(function, {"word": word, "row": list(row)}, wrong_for(word))
            self.check_wrong(texts_over, {"word": word, "row": list(row), "count": 3}, wrong_for(word))

    def test_wrong_rows_come_last(self):
        for word, row in WRONG_ROWS.items():
            index = first_wrong(word, row)
            self.assertIsNotNone(index)
            for function in ASKING:
                found = self.check_raises(errors.WrongRow, function, {"word": word, "row": list(row)})
                self.assertEqual(found.index, index)
                self.check_raises(errors.InvalidWord, function, {"word": "pair", "row": list(row)})
                self.check_raises(errors.InvalidRow, function, {"word": word, "row": row + [None]})
            found = self.check_raises(errors.WrongRow, texts_over, {"word": word, "row": list(row), "count": 0})
            self.assertEqual(found.index, index)
            for count in (None, True, False, -1, "3", [3]):
                self.check_raises(errors.InvalidCount, texts_over, {"word": word, "row": list(row), "count": count})
                self.check_raises(errors.InvalidRow, texts_over, {"word": word, "row": tuple(row), "count": count})

    def test_a_wrong_row_does_not_change(self):
        for word, row in WRONG_ROWS.items():
            passed = list(row)
            for function in ASKING:
                with self.assertRaises(errors.WrongRow):
                    function(word, passed)
                self.assertEqual(passed, row)


if __name__ == "__main__":
    unittest.main()
