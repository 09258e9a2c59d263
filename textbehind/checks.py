"""The checks of what callers pass: each raises the error that belongs to its parameter."""

from textbehind.errors import InvalidCount, InvalidEntry, InvalidManner, InvalidPlace, InvalidRow
from textbehind.errors import InvalidSize, InvalidText, InvalidThing, InvalidThings, InvalidWord
from textbehind.walks import COMPLETE_WORDS, MANNERS, SORTS, WORDS, entries_of, length_of, room_of


def is_count(value):
    """Whether a value is an integer from 0 on; True and False are none."""
    return isinstance(value, int) and not isinstance(value, bool) and value >= 0


def is_one_of(words, value):
    """Whether a value is one of some words."""
    return isinstance(value, str) and value in words


def is_text(value):
    """Whether a value is a list of letters."""
    return isinstance(value, list) and all([is_count(letter) for letter in value])


def fits_word(size, word, numbers):
    """Whether a word with these integers from 0 on is an entry in a text of so many letters."""
    if word == "pair":
        return len(numbers) == 2 and numbers[0] < numbers[1] < size
    if len(numbers) != 1:
        return False
    place = numbers[0]
    if word == "front" or word == "even":
        return 1 <= place < size
    if word == "back":
        return place < size - 1
    return word == "odd" and place < size


def is_entry(size, value):
    """Whether a value is an entry in a text of so many letters."""
    if not isinstance(value, tuple) or len(value) < 2 or not isinstance(value[0], str):
        return False
    numbers = value[1:]
    return all([is_count(number) for number in numbers]) and fits_word(size, value[0], numbers)


def is_thing(size, value):
    """Whether a value is a told thing in a text of so many letters."""
    if not isinstance(value, tuple) or len(value) != 4:
        return False
    manner, entry, sort, told = value
    if not is_one_of(MANNERS, manner) or not is_entry(size, entry) or not is_one_of(SORTS, sort):
        return False
    return is_count(told) and told <= room_of(size, entry)


def is_row(size, word, value):
    """Whether a value is a list with a value from 0 to the room, or None, for each entry of the word."""
    if not isinstance(value, list):
        return False
    entries = entries_of(size, word)
    if len(value) != len(entries):
        return False
    told = [(number, entry) for number, entry in zip(value, entries) if number is not None]
    return all([is_count(number) and number <= room_of(size, entry) for number, entry in told])


def is_complete(word, value):
    """Whether a value is a list of values as a complete table of the word has them."""
    return isinstance(value, list) and is_row(length_of(word, len(value)), word, value) and None not in value


def is_row_of_ends(value):
    """Whether a value is a list of integers from 0 on, each at most its index."""
    return isinstance(value, list) and all([is_count(end) and end <= index for index, end in enumerate(value)])


def check_text(text):
    if not is_text(text):
        raise InvalidText("a text is a list of integers from 0 on")


def check_size(size):
    if not is_count(size):
        raise InvalidSize("a size is an integer from 0 on")


def check_manner(manner):
    if not is_one_of(MANNERS, manner):
        raise InvalidManner("a manner is letters, names or order")


def check_word(word):
    if not is_one_of(WORDS, word):
        raise InvalidWord("a word is front, back, odd, even, pair or mirrors")


def check_entry(size, entry):
    if not is_entry(size, entry):
        raise InvalidEntry("this is no entry of a text of this length")


def check_thing(size, thing):
    if not is_thing(size, thing):
        raise InvalidThing("this is no told thing of a text of this length")


def check_things(size, things):
    if not isinstance(things, list) or not all([is_thing(size, thing) for thing in things]):
        raise InvalidThings("this is no list of told things of a text of this length")


def check_list(size, things):
    """The checks of a told list: its length, then its things."""
    check_size(size)
    check_things(size, things)


def check_row(size, word, row):
    if not is_row(size, word, row):
        raise InvalidRow("a row has a value from 0 to the room, or None, for each entry of the word")


def check_count(count):
    if not is_count(count):
        raise InvalidCount("a number of letters is an integer from 0 on")


def check_count_within(count, least, most):
    if not is_count(count) or count < least or count > most:
        raise InvalidCount(f"here a number is an integer from {least} to {most}")


def check_most(most):
    if most is not None and not is_count(most):
        raise InvalidCount("a limit of letters is None or an integer from 0 on")


def check_times(times):
    if not is_count(times) or times == 0:
        raise InvalidCount("a text is written a number of times from 1 on")


def check_place(size, place):
    if not is_count(place) or not 1 <= place < size:
        raise InvalidPlace("this is no place from 1 on of a text of this length")


def check_complete(word, row):
    """The checks of a complete table: its word, then its values."""
    if not is_one_of(COMPLETE_WORDS, word):
        raise InvalidWord("a word of complete tables is front, back, odd, even or mirrors")
    if not is_complete(word, row):
        raise InvalidRow("a complete table has a value from 0 to the room for each entry of the word")


def check_fronts(fronts):
    if not is_complete("front", fronts):
        raise InvalidRow("a table of fronts has a value from 0 to the room for each place from 1 on")


def check_ends(ends_row, least):
    """The check of a row of ends of at least so many values."""
    if not is_row_of_ends(ends_row) or len(ends_row) < least:
        raise InvalidRow("a row of ends has integers from 0 on, each at most its index")
