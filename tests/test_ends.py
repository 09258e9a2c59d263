"""[17] to [19], [25] (e), and the part of the heading textbehind/complete.py on rows of ends and written texts."""

import random
import unittest

from tests import plainly, tabling
from tests.cases import Calls
from tests.wrongs import NO_NUMBERS, NO_ROW_AT_ALL, WRONG, spoilt_rows
from textbehind import errors
from textbehind.complete import beginning, count_ends, ends, fewest_for, first_wrong, fronts_of, hungry
from textbehind.complete import next_ends, plainest_for, written
from textbehind.texts import table


def texts_by_manner():
    """Texts of each length that stand for all, for each manner, and some longer ones."""
    chance = random.Random("ends")
    for manner in plainly.MANNERS:
        for size in range(1, 8):
            found = tabling.naming_texts(size) if manner != "order" or size > 5 else plainly.texts(size)
            for text in found if size < 5 else chance.sample(found, min(len(found), 150)):
                yield manner, text
        for size in (9, 14, 20):
            for letters in (1, 2, 2, 3, 6):
                yield manner, [chance.randrange(letters) for _ in range(size)]
                period = [chance.randrange(letters) for _ in range(chance.randint(1, 6))]
                yield manner, (period * size)[:size]


def fitting_ends(size):
    """All rows of so many integers from 0 on, each at most its index."""
    rows = [[]]
    for index in range(size):
        rows = [row + [end] for row in rows for end in range(index + 1)]
    return rows


def next_values(row):
    """What can come behind a row of ends, by all texts of one more letter."""
    return sorted({longer[-1] for longer in tabling.rows_of_ends(len(row) + 1) if list(longer[:-1]) == row})


class ExampleTest(unittest.TestCase):
    def test_the_rows_of_the_interface(self):
        self.assertEqual(ends([0, 1, 3, 0, 1]), [0, 0, 1, 1, 2, 3])
        self.assertEqual(next_ends([0, 0, 1, 1]), [0, 1, 2])
        self.assertEqual(written([0, 2, 0], 10 ** 20, 2), 399999999999999999998)
        self.assertEqual(written([0, 1], 2, 2), 1)


class EndsTest(unittest.TestCase):
    def test_ends_and_fronts_lead_into_one_another(self):
        for manner, text in texts_by_manner():
            fronts, row = tabling.table(text, manner, "front"), tabling.row_of_ends(text, manner)
            self.assertEqual(ends(fronts), row, (manner, text))
            self.assertEqual(fronts_of(row), fronts, (manner, text))

    def test_one_letter(self):
        self.assertEqual([ends([]), fronts_of([0])], [[0], []])
        self.assertEqual([ends([0]), ends([1]), fronts_of([0, 0]), fronts_of([0, 1])], [[0, 0], [0, 1], [0], [1]])

    def test_of_other_rows_the_form_holds(self):
        chance = random.Random("form")
        for size in range(1, 9):
            for _ in range(40):
                fronts = [chance.randint(0, size - place) for place in range(1, size)]
                found = ends(fronts)
                self.assertEqual(len(found), size)
                self.assertTrue(all(type(end) is int and 0 <= end <= index for index, end in enumerate(found)))
                row = [chance.randint(0, index) for index in range(size)]
                found = fronts_of(row)
                self.assertEqual(len(found), size - 1)
                self.assertTrue(all(0 <= front < size - index for index, front in enumerate(found)))


class NextTest(unittest.TestCase):
    def test_what_can_come_is_what_longer_texts_have(self):
        for size in range(7):
            for row in fitting_ends(size):
                if size == 0 or tuple(row) in tabling.rows_of_ends(size):
                    self.assertEqual(next_ends(row), next_values(row), row)

    def test_rows_of_ends_that_no_text_has(self):
        refused = 0
        for size in range(1, 7):
            for row in fitting_ends(size):
                wrong = [many - 1 for many in range(1, size + 1)
                         if tuple(row[:many]) not in tabling.rows_of_ends(many)]
                if wrong:
                    refused += 1
                    with self.assertRaises(errors.WrongRow) as caught:
                        next_ends(row)
                    self.assertEqual(caught.exception.index, wrong[0], row)
        self.assertGreater(refused, 500)

    def test_rows_that_are_wrong_early_and_late(self):
        for row, index in (([0, 0, 2], 2), ([0, 0, 1, 3], 3), ([0, 1, 1], 2), ([0, 1, 2, 1], 3), ([0, 0, 0, 2, 0], 3),
                           ([0, 0, 2, 3, 4], 2), ([0, 1, 0, 2], 3)):
            with self.assertRaises(errors.WrongRow) as caught:
                next_ends(row)
            self.assertEqual(caught.exception.index, index)
            self.assertIs(type(caught.exception), errors.WrongRow)

    def test_the_empty_row_and_short_ones(self):
        self.assertEqual([next_ends([]), next_ends([0]), next_ends([0, 0]), next_ends([0, 1])],
                         [[0], [0, 1], [0, 1], [0, 2]])
        self.assertEqual(next_ends([0, 0, 1]), [0, 1, 2])
        self.assertEqual(next_ends([0, 0, 1, 2]), [0, 3])
        self.assertEqual(next_ends([0, 0, 1, 0, 1, 2, 3]), [0, 1, 2, 4])

    def test_next_ends_agree_with_tables_of_fronts(self):
        for size in range(1, 6):
            for row in fitting_ends(size):
                if tuple(row) in tabling.rows_of_ends(size):
                    able = [end for end in range(size + 1) if first_wrong("front", fronts_of(row + [end])) is None
                            and ends(fronts_of(row + [end])) == row + [end]]
                    self.assertEqual(next_ends(row), able)


class CountTest(unittest.TestCase):
    def test_held_against_all_texts(self):
        for size in range(10):
            self.assertEqual(count_ends(size), len(tabling.rows_of_ends(size)))
            for most in range(size + 2):
                self.assertEqual(count_ends(size, most=most), len(tabling.rows_of_ends(size, most)), (size, most))
            self.assertEqual(count_ends(size, most=None), count_ends(size))

    def test_the_known_numbers(self):
        self.assertEqual([count_ends(size) for size in range(10)], [1, 1, 2, 4, 9, 20, 47, 110, 263, 630])
        self.assertEqual([count_ends(size, most=2) for size in range(10)], [1] + [2 ** k for k in range(9)])
        self.assertEqual([count_ends(size, most=1) for size in range(10)], [1] * 10)
        self.assertEqual([count_ends(size, most=0) for size in range(10)], [1] + [0] * 9)
        self.assertEqual([count_ends(8, most=3), count_ends(8, most=4), count_ends(8, most=10 ** 6)], [262, 263, 263])


class BeginningTest(unittest.TestCase):
    def test_tables_of_beginnings_in_every_manner(self):
        for manner, text in texts_by_manner():
            fronts = tabling.table(text, manner, "front")
            for length in range(1, len(text) + 1):
                self.assertEqual(beginning(fronts, length), table(text[:length], manner, "front"))

    def test_the_whole_and_the_first_letter(self):
        self.assertEqual([beginning([], 1), beginning([0, 1, 3, 0, 1], 1), beginning([0, 1, 3, 0, 1], 6)],
                         [[], [], [0, 1, 3, 0, 1]])
        self.assertEqual(beginning([0, 1, 3, 0, 1], 4), [0, 1, 1])


class WrittenTest(unittest.TestCase):
    def test_held_against_texts_that_are_written_out(self):
        chance = random.Random("written")
        for size in range(1, 7):
            for text in tabling.naming_texts(size):
                fronts = tabling.table(text, "letters", "front")
                for times in (1, 2, 3, 5):
                    expected = table(text * times, "letters", "front")
                    for place in range(1, size * times):
                        if times < 5 or chance.random() < 0.3:
                            self.assertEqual(written(fronts, times, place), expected[place - 1], (text, times, place))

    def test_longer_texts(self):
        chance = random.Random("longer")
        for size in (12, 20, 60):
            for letters in (1, 2, 2, 3):
                period = [chance.randrange(letters) for _ in range(chance.choice([1, 2, 3, size // 2, size]))]
                for text in ([chance.randrange(letters) for _ in range(size)], (period * size)[:size]):
                    fronts = table(text, "letters", "front")
                    expected = table(text * 3, "letters", "front")
                    self.assertEqual([written(fronts, 3, place) for place in range(1, 3 * size)], expected)

    def test_places_at_multiples_of_the_length(self):
        for fronts in ([], [0], [0, 2, 0], [3, 2, 1], [0, 1, 3, 0, 1]):
            size = len(fronts) + 1
            for times in (2, 3, 10 ** 29):
                for turn in (1, 2, times - 1):
                    if turn < times:
                        self.assertEqual(written(fronts, times, turn * size), (times - turn) * size)

    def test_written_once_it_is_the_table(self):
        for size in range(2, 7):
            for text in tabling.naming_texts(size):
                fronts = tabling.table(text, "letters", "front")
                self.assertEqual([written(fronts, 1, place) for place in range(1, size)], fronts)

    def test_values_without_bound(self):
        times = 10 ** 29
        self.assertEqual(written([3, 2, 1], times, 1), 4 * times - 1)
        self.assertEqual(written([3, 2, 1], times, 4 * times - 1), 1)
        self.assertEqual(written([0, 2, 0], times, 2 * times), 2 * times)
        self.assertEqual(written([0, 2, 0], times, 2 * times + 1), 0)
        self.assertEqual(written([], times, 1), times - 1)
        self.assertEqual(written([], times, times - 1), 1)

    def test_values_with_a_bound_behind_the_text(self):
        # 0 1 0 | 0 1 0 | ..: behind the place 2 the text's beginning goes on with one letter of the next time.
        places = (1, 2, 4, 5, 3 * 10 ** 29 - 1)
        self.assertEqual([written([0, 1], 10 ** 29, place) for place in places], [0, 1, 0, 1, 1])
        # 0 0 1 0 0: from the place 3 on it reads 0 0 0, and from the place 4 on 0 0 0 too.
        self.assertEqual([written([1, 0, 2, 1], 7, place) for place in (3, 4, 5, 8)], [2, 2, 30, 2])

    def test_great_times_and_places(self):
        chance = random.Random("great")
        for size in range(1, 7):
            for text in tabling.naming_texts(size):
                fronts = tabling.table(text, "letters", "front")
                small, times = 6, chance.randint(10 ** 28, 10 ** 29)
                for place in chance.sample(range(size, small * size), min(5, (small - 1) * size)):
                    # What is left of the text from there on is the same, so is the front.
                    later = place + (times - small) * size
                    self.assertEqual(written(fronts, times, later), written(fronts, small, place))
                for place in range(1, size):
                    found, rest = written(fronts, small, place), small * size - place
                    bound = found if found < rest else times * size - place
                    self.assertEqual(written(fronts, times, place), bound)


class HungryTest(unittest.TestCase):
    def test_it_needs_so_many_letters(self):
        for count in range(1, 9):
            fronts = hungry(count)
            self.assertEqual(len(fronts) + 1, 2 ** (count - 1))
            self.assertIsNone(first_wrong("front", fronts))
            self.assertEqual(fewest_for("front", fronts), count)
            text = plainest_for("front", fronts)
            self.assertEqual(table(text, "letters", "front"), fronts)
            self.assertEqual(len(set(text)), count)

    def test_short_ones_held_against_all_texts(self):
        for count in (1, 2, 3):
            texts = tabling.texts_by_table(2 ** (count - 1), "front")[tuple(hungry(count))]
            self.assertEqual(min(len(set(text)) for text in texts), count)


FRONTS = [0, 2, 0]
NO_FRONTS = NO_ROW_AT_ALL + spoilt_rows(FRONTS, [3, 2, 1])
ENDS = [0, 0, 1, 1]
NO_ENDS = NO_ROW_AT_ALL + spoilt_rows(ENDS, [0, 1, 2, 3]) + [[1], [0, 2], [0, 0, 3], [1, 0]]


class CallsTest(Calls):
    def test_arguments_stay_and_lists_are_new(self):
        for fronts in (FRONTS, [], [1], [0, 1, 3, 0, 1], [3, 0, 1]):
            self.check_call(ends, {"fronts": list(fronts)})
            self.check_call(beginning, {"fronts": list(fronts), "length": len(fronts) + 1})
            self.check_call(beginning, {"fronts": list(fronts), "length": 1})
            self.check_call(written, {"fronts": list(fronts), "times": 2, "place": 1})
        for row in (ENDS, [0], [0, 0, 1, 1, 2, 3]):
            self.check_call(fronts_of, {"ends_row": list(row)})
            self.check_call(next_ends, {"ends_row": list(row)})
        self.check_call(next_ends, {"ends_row": []})
        for most in (None, 0, 1, 2, 9):
            self.check_call(count_ends, {"size": 5, "most": most})
        for count in range(1, 9):
            self.check_call(hungry, {"count": count})

    def test_wrong_arguments(self):
        fronts = (errors.InvalidRow, NO_FRONTS)
        self.check_wrong(ends, {"fronts": FRONTS}, {"fronts": fronts})
        self.check_wrong(fronts_of, {"ends_row": ENDS}, {"ends_row": (errors.InvalidRow, NO_ENDS + [[]])})
        self.check_wrong(next_ends, {"ends_row": ENDS}, {"ends_row": (errors.InvalidRow, NO_ENDS)})
        self.check_wrong(count_ends, {"size": 4, "most": 2}, WRONG)
        self.check_wrong(count_ends, {"size": 4, "most": None}, WRONG)
        self.check_wrong(beginning, {"fronts": FRONTS, "length": 2},
                         {"fronts": fronts, "length": (errors.InvalidCount, NO_NUMBERS + [0, 5, 10 ** 30])})
        self.check_wrong(written, {"fronts": FRONTS, "times": 3, "place": 2},
                         {"fronts": fronts, "times": (errors.InvalidCount, NO_NUMBERS + [0]),
                          "place": (errors.InvalidPlace, NO_NUMBERS + [0, 12, 13, 10 ** 30])})
        self.check_wrong(hungry, {"count": 3}, {"count": (errors.InvalidCount, NO_NUMBERS + [0, 9, 10, 10 ** 30])})

    def test_a_wrong_row_of_ends(self):
        row = [0, 0, 2]
        found = self.check_raises(errors.WrongRow, next_ends, {"ends_row": row})
        self.assertEqual([found.index, row], [2, [0, 0, 2]])
        # What is of the wrong form behind a wrong value is of the wrong form all the same.
        for wrong in ([0, 0, 2, None], [0, 0, 2, 4], [0, 0, 2, -1], [0, 0, 2, True]):
            self.check_raises(errors.InvalidRow, next_ends, {"ends_row": wrong})

    def test_edges_of_lengths_and_places(self):
        self.assertEqual(beginning(FRONTS, 4), FRONTS)
        self.check_raises(errors.InvalidCount, beginning, {"fronts": [], "length": 2})
        self.check_raises(errors.InvalidCount, beginning, {"fronts": [], "length": 0})
        self.assertEqual(beginning([], 1), [])
        self.check_raises(errors.InvalidPlace, written, {"fronts": [], "times": 1, "place": 1})
        self.check_raises(errors.InvalidPlace, written, {"fronts": FRONTS, "times": 10 ** 29, "place": 4 * 10 ** 29})
        self.assertEqual(written(FRONTS, 10 ** 29, 4 * 10 ** 29 - 1), 0)

    def test_rows_that_no_text_has_are_of_the_right_form(self):
        for fronts in ([1, 1], [3, 1, 0]):
            self.assertIsNotNone(first_wrong("front", fronts))
            self.assertEqual(len(beginning(fronts, 2)), 1)
            self.assertIs(type(written(fronts, 2, 1)), int)
            self.check_raises(errors.InvalidCount, written, {"fronts": fronts, "times": 0, "place": 1})
            self.check_raises(errors.InvalidPlace, written, {"fronts": fronts, "times": 1, "place": 9})

    def test_the_limit_goes_by_name_alone(self):
        with self.assertRaises(TypeError):
            count_ends(4, 2)


if __name__ == "__main__":
    unittest.main()
