"""All complete tables of a length, and by how few of its entries a text is told."""

from textbehind.checks import check_manner, check_size, check_text, check_word, check_words
from textbehind.parts import texts_having
from textbehind.rows import agreements, numbered, ranked
from textbehind.walks import entries_of


def tables(size, manner, word):
    """All complete tables of a word in a manner in texts of so many letters, ascending, each once."""
    check_size(size)
    check_manner(manner)
    check_word(word)
    entries = entries_of(size, word)
    rows = [agreements(text, manner, entries) for text in texts_having(size, [], manner == "order")]
    return [list(row) for row in sorted({tuple(row) for row in rows})]


def partings_of(text, manner, entries):
    """For each text that is not equal to this one in the manner, the indexes of the entries that part the two."""
    ordered = manner == "order"
    same = ranked(text) if ordered else numbered(text)
    seen = agreements(text, manner, entries)
    others = [other for other in texts_having(len(text), [], ordered) if other != same]
    rows = [agreements(other, manner, entries) for other in others]
    return [[at for at, value in enumerate(row) if value != seen[at]] for row in rows]


def can_part(partings, many):
    """Whether so many indexes can be chosen of which each parting has one."""
    if not partings:
        return True
    if many == 0:
        return False
    for at in min(partings, key=len):
        if can_part([parting for parting in partings if at not in parting], many - 1):
            return True
    return False


def first_parting(partings, many):
    """The first so many indexes, ascending, of which each parting has one, where less than so many are too few."""
    chosen = []
    at = 0
    while len(chosen) < many:
        later = [[index for index in parting if index > at] for parting in partings if at not in parting]
        if can_part(later, many - len(chosen) - 1):
            chosen.append(at)
            partings = later
        at += 1
    return chosen


def telling(text, manner, words):
    """The first of the shortest lists of entries of the words by which the text is told, None if there is none."""
    check_text(text)
    check_manner(manner)
    check_words(words)
    # Entries of mirrors are those of two other words; each stands once, ascending as tuples.
    entries = sorted({entry for word in words for entry in entries_of(len(text), word)})
    partings = partings_of(text, manner, entries)
    for many in range(len(entries) + 1):
        if can_part(partings, many):
            return [entries[at] for at in first_parting(partings, many)]
    return None
