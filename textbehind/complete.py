"""Complete tables in the manner letters, rows of ends, and texts that are written several times."""

from textbehind.borders import fronts_by_ends, front_written, greatest_end, longer_rows, values_behind
from textbehind.checks import check_complete, check_count, check_count_within, check_ends, check_fronts
from textbehind.checks import check_most, check_place, check_size, check_times
from textbehind.errors import WrongRow
from textbehind.filling import bars_of_free_places, text_and_bars, wrong_index
from textbehind.texts import table


def check_possible(word, row):
    """The last check of a complete table: that some text has it."""
    index = wrong_index(word, row)
    if index is not None:
        raise WrongRow(index)


def first_wrong(word, row):
    """The least index such that no text has the values up to this one, None if some text has the table."""
    check_complete(word, row)
    return wrong_index(word, row)


def bars(word, row):
    """The bar of each place, None for a covered one."""
    check_complete(word, row)
    check_possible(word, row)
    _, found = text_and_bars(word, row)
    return found


def fewest_for(word, row):
    """The fewest letters of a text that has the table."""
    check_complete(word, row)
    check_possible(word, row)
    return max([bar + 1 for bar in bars_of_free_places(word, row)], default=0)


def plainest_for(word, row):
    """The plainest text that has the table; for backs that of the turned text, turned."""
    check_complete(word, row)
    check_possible(word, row)
    text, _ = text_and_bars(word, row)
    return text


def texts_over(word, row, count):
    """The number of texts over so many letters that have the table."""
    check_complete(word, row)
    check_count(count)
    check_possible(word, row)
    many = 1
    for bar in bars_of_free_places(word, row):
        many = many * max(count - bar, 0)
    return many


def ends(fronts):
    """The row of ends for a complete table of fronts in any manner."""
    check_fronts(fronts)
    return [greatest_end(fronts, many) for many in range(1, len(fronts) + 2)]


def fronts_of(ends_row):
    """The complete table of fronts for a row of ends in any manner."""
    check_ends(ends_row, 1)
    return fronts_by_ends(ends_row)


def next_ends(ends_row):
    """The values that can come next behind a row of ends, ascending."""
    check_ends(ends_row, 0)
    text = []
    for index, value in enumerate(ends_row):
        letters = values_behind(ends_row, text)
        if value not in letters:
            raise WrongRow(index)
        text.append(letters[value])
    return sorted(values_behind(ends_row, text))


def count_ends(size, *, most=None):
    """The number of rows of ends of so many letters, in texts over at most so many letters where a number is told."""
    check_size(size)
    check_most(most)
    rows = [([], [])]
    for _ in range(size):
        rows = longer_rows(rows, most)
    return len(rows)


def beginning(fronts, length):
    """The complete table of fronts of the beginning of so many letters."""
    check_fronts(fronts)
    check_count_within(length, 1, len(fronts) + 1)
    return [min(fronts[place - 1], length - place) for place in range(1, length)]


def written(fronts, times, place):
    """The front in letters at a place of the text written so many times."""
    check_fronts(fronts)
    check_times(times)
    check_place(times * (len(fronts) + 1), place)
    return front_written(fronts, times, place)


def hungry(count):
    """A complete table of fronts of 2 ** (count - 1) letters that needs so many letters."""
    check_count_within(count, 1, 8)
    # How often 2 divides each number: so the last letter comes once, and the others all stand at ends before it.
    text = [(turn & -turn).bit_length() - 1 for turn in range(1, (1 << (count - 1)) + 1)]
    return table(text, "letters", "front")
