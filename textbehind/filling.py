"""Complete tables in letters, decided place by place."""

from textbehind.joins import head_of, join_places
from textbehind.rows import least_other
from textbehind.walks import entries_of, length_of, places_at, room_of, steps_of


def wrong_index(word, row):
    """The least index such that no text has the values up to this one, None if some text has the table."""
    size = length_of(word, len(row))
    heads = list(range(size))
    parted = []
    for index, entry in enumerate(entries_of(size, word)):
        join_places(heads, steps_of(size, entry, row[index]))
        if row[index] < room_of(size, entry):
            parted.append(places_at(size, entry, row[index]))
        if any([head_of(heads, place) == head_of(heads, other) for place, other in parted]):
            return index
    return None


def told_places(word, row):
    """For each place a place before it that covers it, None for a free one; and the places before it that bar it."""
    size = length_of(word, len(row))
    covers = [None] * size
    barring = [[] for _ in range(size)]
    for value, entry in zip(row, entries_of(size, word)):
        for place, other in steps_of(size, entry, value):
            covers[other] = place
        if value < room_of(size, entry):
            place, other = places_at(size, entry, value)
            barring[other].append(place)
    return covers, barring


def filled(word, row):
    """The text that takes the least letter at each free place, and the bars, for a possible table but of backs."""
    covers, barring = told_places(word, row)
    text = []
    found = []
    for cover, places in zip(covers, barring):
        barred = sorted({text[place] for place in places})
        text.append(least_other(barred) if cover is None else text[cover])
        found.append(len(barred) if cover is None else None)
    return text, found


def text_and_bars(word, row):
    """The text that takes the least letter at each free place, and the bars, for a possible table."""
    if word != "back":
        return filled(word, row)
    # A table of backs is that of fronts of the turned text, from its last value to its first one.
    text, found = filled("front", row[::-1])
    return text[::-1], found[::-1]


def bars_of_free_places(word, row):
    """The bars of the free places of a possible table."""
    _, found = text_and_bars(word, row)
    return [bar for bar in found if bar is not None]
