"""Complete tables and rows of ends, read off texts: what textbehind.complete is held against."""

from functools import lru_cache
from itertools import product

from tests import plainly
from tests.counting import is_canonical

WORDS = ("front", "back", "odd", "even", "mirrors")
SHORTEST = {"front": 1, "back": 1, "odd": 0, "even": 1, "mirrors": 0}


@lru_cache(maxsize=None)
def naming_texts(size):
    """All texts up to the names of the letters, each once, as they are numbered from 0 on."""
    if size <= 6:
        return [list(text) for text in product(range(size), repeat=size) if is_canonical(text)]
    return [text + [letter] for text in naming_texts(size - 1) for letter in range(max(text) + 2)]


def table(text, manner, word):
    return [plainly.agreement(text, manner, entry) for entry in plainly.entries(len(text), word)]


@lru_cache(maxsize=None)
def texts_by_table(size, word):
    """For each complete table in letters the texts that have it, up to the names of the letters."""
    found = {}
    for text in naming_texts(size):
        found.setdefault(tuple(table(text, "letters", word)), []).append(text)
    return found


def fitting_rows(size, word):
    """All rows of values from 0 to the room of each entry."""
    rooms = [plainly.room(size, entry) for entry in plainly.entries(size, word)]
    return [list(row) for row in product(*[range(room + 1) for room in rooms])]


@lru_cache(maxsize=None)
def beginnings_of_tables(size, word):
    return {row[:many] for row in texts_by_table(size, word) for many in range(len(row) + 1)}


def first_wrong(size, word, row):
    right = beginnings_of_tables(size, word)
    wrong = [index for index in range(len(row)) if tuple(row[:index + 1]) not in right]
    return wrong[0] if wrong else None


def ends_of_beginning(text, j, manner="letters"):
    return [b for b in range(j) if plainly.rows_alike(text[:b], text[j - b:j], manner)]


def bar_of_fronts(text, fronts, j):
    if any(i + fronts[i - 1] > j for i in range(1, j + 1) if i < len(text)):
        return None
    return len({text[b] for b in ends_of_beginning(text, j)})


def bar_of_mirrors(text, j, word):
    many = {"odd": (1,), "even": (0,), "mirrors": (0, 1)}[word]
    stretches = [s for s in range(1, j + 1) if text[s:j] == text[s:j][::-1] and (j - s) % 2 in many]
    if any(text[s - 1] == text[j] for s in stretches):
        return None
    return len({text[s - 1] for s in stretches})


def bars(text, word):
    """[15] and [16] for the table of a text."""
    if word == "back":
        return bars(text[::-1], "front")[::-1]
    if word == "front":
        fronts = table(text, "letters", "front")
        return [bar_of_fronts(text, fronts, j) for j in range(len(text))]
    return [bar_of_mirrors(text, j, word) for j in range(len(text))]


def product_of(bars_row, count):
    """[17]: the number of texts over so many letters."""
    found = 1
    for bar in bars_row:
        if bar is not None:
            found *= max(count - bar, 0)
    return found


def row_of_ends(text, manner="letters"):
    return [max(ends_of_beginning(text, j, manner)) for j in range(1, len(text) + 1)]


@lru_cache(maxsize=None)
def rows_of_ends(size, most=None):
    """All rows of ends of texts of so many letters, of at most so many different ones."""
    found = [text for text in naming_texts(size) if most is None or len(set(text)) <= most]
    return {tuple(row_of_ends(text)) for text in found}


def joined_by(size, word, row):
    """For each place the number of its group, by the first values of a table, and the pairs that must be unlike."""
    groups = list(range(size))
    unlike = []
    for value, entry in zip(row, plainly.entries(size, word)):
        first, second = plainly.walks(size, entry)
        for p, q in list(zip(first, second))[:value]:
            groups = [groups[p] if group == groups[q] else group for group in groups]
        if value < plainly.room(size, entry):
            unlike.append((first[value], second[value]))
    return groups, unlike


def is_possible(size, word, row):
    """Whether some text has the first values of a table, of any length, by [9]."""
    groups, unlike = joined_by(size, word, row)
    return all(groups[p] != groups[q] for p, q in unlike)
