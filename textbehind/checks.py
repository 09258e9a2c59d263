"""The checks of what callers pass: each raises the error that belongs to its parameter."""

from textbehind.errors import InvalidCount, InvalidEntry, InvalidManner, InvalidPlace, InvalidRow
from textbehind.errors import InvalidSize, InvalidText, InvalidThing, InvalidThings, InvalidWord
from textbehind.walks import COMPLETE_WORDS, ENTRY_WORDS, MANNERS, SORTS, WORDS, entries_of, length_of, room_of


def is_count(value):
    """Whether a value is an integer from 0 on; True and False are none."""
    return isinstance(value, int) and not isinstance(value, bool) and value >= 0


def is_one_of(words, value):
    """Whether a value is one of some words."""
    return isinstance(value, str) and value in words


def is_text(value):
    """Whether a value is a list of letters."""
    return isinstance(value, list) and all([is_count(letter) for letter in value])


def has_entry_form(value):
    """Whether a value is a tuple of a word and as many integers from 0 on as its entries have."""
    if not isinstance(value, tuple) or not value or not is_one_of(ENTRY_WORDS, value[0]):
        return False
    numbers = value[1:]
    return len(numbers) == (2 if value[0] == "pair" else 1) and all([is_count(number) for number in numbers])


def has_thing_form(value):
    """Whether a value is a told thing by its form alone, whatever the text's length and the entry's room are."""
    if not isinstance(value, tuple) or len(value) != 4:
        return False
    manner, entry, sort, told = value
    return is_one_of(MANNERS, manner) and has_entry_form(entry) and is_one_of(SORTS, sort) and is_count(told)


def fits_size(size, entry):
    """Whether what has the form of an entry is one in a text of so many letters."""
    word, place = entry[0], entry[1]
    if word == "pair":
        return place < entry[2] < size
    if word == "front" or word == "even":
        return 1 <= place < size
    return place < (size - 1 if word == "back" else size)


def is_entry(size, value):
    """Whether a value is an entry in a text of so many letters."""
    return has_entry_form(value) and fits_size(size, value)


def is_thing(size, value):
    """Whether a value is a told thing in a text of so many letters."""
    return has_thing_form(value) and fits_size(size, value[1]) and value[3] <= room_of(size, value[1])


def is_row(size, word, value):
    """Whether a value is a list with a value from 0 to the room, or None, for each entry of the word."""
    if not isinstance(value, list):
        return False
    entries = entries_of(size, word)
    if len(value) != len(entries):
        return False
    told = [(number, entry) for number, entry in zip(value, entries) if number is not None]
    return all([is_count(number) and number <= room_of(size, entry) for number, entry in told])


def is_complete(word, value):
    """Whether a value is a list of values as a complete table of the word has them."""
    return isinstance(value, list) and is_row(length_of(word, len(value)), word, value) and None not in value


def has_row_form(value):
    """Whether a value is a list of integers from 0 on and None, whatever entries they are of."""
    return isinstance(value, list) and all([number is None or is_count(number) for number in value])


def is_row_of_ends(value):
    """Whether a value is a list of integers from 0 on, each at most its index."""
    return isinstance(value, list) and all([is_count(end) and end <= index for index, end in enumerate(value)])


def check_text(text):
    if not is_text(text):
        raise InvalidText("a text is a list of integers from 0 on")


def check_size(size):
    if not is_count(size):
        raise InvalidSize("a size is an integer from 0 on")


def check_manner(manner):
    if not is_one_of(MANNERS, manner):
        raise InvalidManner("a manner is letters, names or order")


def check_word(word):
    if not is_one_of(WORDS, word):
        raise InvalidWord("a word is front, back, odd, even, pair or mirrors")


def check_words(words):
    if not isinstance(words, list) or not all([is_one_of(WORDS, word) for word in words]):
        raise InvalidWord("here words are a list of front, back, odd, even, pair and mirrors")
    if any([words.count(word) > 1 for word in words]):
        raise InvalidWord("the words of a list are different")


def check_entry(size, entry):
    if not is_entry(size, entry):
        raise InvalidEntry("this is no entry of a text of this length")


def check_thing(size, thing):
    if not is_thing(size, thing):
        raise InvalidThing("this is no told thing of a text of this length")


def check_things(size, things):
    if not isinstance(things, list) or not all([is_thing(size, thing) for thing in things]):
        raise InvalidThings("this is no list of told things of a text of this length")


def check_list(size, things):
    """The checks of a told list: its length, then its things."""
    check_size(size)
    check_things(size, things)


def check_row(size, word, row):
    if not is_row(size, word, row):
        raise InvalidRow("a row has a value from 0 to the room, or None, for each entry of the word")


def check_thing_form(thing):
    if not has_thing_form(thing):
        raise InvalidThing("this is no told thing of any text")


def check_list_form(things):
    if not isinstance(things, list) or not all([has_thing_form(thing) for thing in things]):
        raise InvalidThings("this is no list of told things of any text")


def check_row_form(row):
    if not has_row_form(row):
        raise InvalidRow("a row has integers from 0 on and None")


def check_count(count):
    if not is_count(count):
        raise InvalidCount("a number of letters is an integer from 0 on")


def check_count_within(count, least, most):
    if not is_count(count) or count < least or count > most:
        raise InvalidCount(f"here a number is an integer from {least} to {most}")


def check_most(most):
    if most is not None and not is_count(most):
        raise InvalidCount("a limit of letters is None or an integer from 0 on")


def check_times(times):
    if not is_count(times) or times == 0:
        raise InvalidCount("a text is written a number of times from 1 on")


def check_place(size, place):
    if not is_count(place) or not 1 <= place < size:
        raise InvalidPlace("this is no place from 1 on of a text of this length")


def check_complete(word, row):
    """The checks of a complete table: its word, then its values."""
    if not is_one_of(COMPLETE_WORDS, word):
        raise InvalidWord("a word of complete tables is front, back, odd, even or mirrors")
    if not is_complete(word, row):
        raise InvalidRow("a complete table has a value from 0 to the room for each entry of the word")


def check_fronts(fronts):
    if not is_complete("front", fronts):
        raise InvalidRow("a table of fronts has a value from 0 to the room for each place from 1 on")


def check_ends(ends_row, least):
    """The check of a row of ends of at least so many values."""
    if not is_row_of_ends(ends_row) or len(ends_row) < least:
        raise InvalidRow("a row of ends has integers from 0 on, each at most its index")
