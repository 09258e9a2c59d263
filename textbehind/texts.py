"""What is read off a text that is seen: rooms, entries, agreements, tables, told things."""

from textbehind.checks import check_entry, check_manner, check_row, check_size
from textbehind.checks import check_text, check_thing, check_things, check_word
from textbehind.rows import agreed, agreements, holds, numbered, ranked
from textbehind.walks import entries_of, room_of, steps_of


def room(size, entry):
    """The greatest number of steps for which both walks of the entry stay within the text."""
    check_size(size)
    check_entry(size, entry)
    return room_of(size, entry)


def entries(size, word):
    """The list of the entries of a word in a text of so many letters."""
    check_size(size)
    check_word(word)
    return entries_of(size, word)


def agreement(text, manner, entry):
    """The number of steps for which the two walks of the entry agree."""
    check_text(text)
    check_manner(manner)
    check_entry(len(text), entry)
    return agreed(text, manner, steps_of(len(text), entry, len(text)))


def table(text, manner, word):
    """The complete table of a word: the agreements of all its entries."""
    check_text(text)
    check_manner(manner)
    check_word(word)
    return agreements(text, manner, entries_of(len(text), word))


def plain(text, manner):
    """An equal text up to the manner, with letters from 0 on."""
    check_text(text)
    check_manner(manner)
    return ranked(text) if manner == "order" else numbered(text)


def is_true(text, thing):
    """Whether a told thing is true of the text."""
    check_text(text)
    check_thing(len(text), thing)
    return holds(text, thing)


def first_false(text, things):
    """The index of the first thing that is not true of the text, None if there is none."""
    check_text(text)
    check_things(len(text), things)
    for index, thing in enumerate(things):
        if not holds(text, thing):
            return index
    return None


def told(size, manner, word, row):
    """The things of sort "is" that a row of values and None tells of the entries of a word."""
    check_size(size)
    check_manner(manner)
    check_word(word)
    check_row(size, word, row)
    pairs = zip(entries_of(size, word), row)
    return [(manner, entry, "is", value) for entry, value in pairs if value is not None]
