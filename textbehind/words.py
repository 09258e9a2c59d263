"""Things, lists of things and tables as texts, and such texts read back; by their forms alone."""

from textbehind.checks import check_list_form, check_row_form, check_thing_form, has_entry_form, has_thing_form
from textbehind.errors import Unreadable

MOST_DIGITS = 30
UNREAD = "?"


def line_of(thing):
    """A thing as its words and numbers."""
    manner, entry, sort, value = thing
    numbers = [str(number) for number in entry[1:]]
    return " ".join([manner, entry[0]] + numbers + [sort, str(value)])


def show_thing(thing):
    """A thing as a text."""
    check_thing_form(thing)
    return line_of(thing)


def show_list(things):
    """A list of things as a text, each in a line."""
    check_list_form(things)
    return "\n".join([line_of(thing) for thing in things])


def show_row(row):
    """A table as a text."""
    check_row_form(row)
    return " ".join([UNREAD if value is None else str(value) for value in row])


def number_of(word):
    """The integer that a word writes, None if it writes none."""
    # There are digits beyond ASCII, too, which are none of the document.
    if not word.isascii() or not word.isdigit() or len(word) > MOST_DIGITS:
        return None
    return None if word.startswith("0") and word != "0" else int(word)


def entry_of(words):
    """The entry that some words write, None if they write none."""
    entry = tuple(words[:1] + [number_of(word) for word in words[1:]])
    return entry if has_entry_form(entry) else None


def thing_of(words):
    """The thing that some words write, None if they write none."""
    if len(words) < 5:
        return None
    thing = (words[0], entry_of(words[1:-2]), words[-2], number_of(words[-1]))
    return thing if has_thing_form(thing) else None


def parts_of(text, sign):
    """What stands between the signs of a text, nothing for the empty one; Unreadable for any object that is no text."""
    if not isinstance(text, str):
        raise Unreadable("this is no text")
    return text.split(sign) if text else []


def read_thing(line):
    """The thing that has this text."""
    thing = thing_of(parts_of(line, " "))
    if thing is None:
        raise Unreadable("this text is of no thing")
    return thing


def read_list(lines):
    """The list of things that has this text."""
    return [read_thing(line) for line in parts_of(lines, "\n")]


def read_row(line):
    """The table that has this text."""
    row = []
    for word in parts_of(line, " "):
        value = number_of(word)
        if value is None and word != UNREAD:
            raise Unreadable("this text is of no table")
        row.append(value)
    return row
