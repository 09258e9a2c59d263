"""Rows of ends, and the tables of fronts that go with them."""

from textbehind.rows import least_other


def greatest_end(fronts, many):
    """The greatest end of the beginning of so many letters, by the table of fronts."""
    return max([0] + [end for end in range(1, many) if fronts[many - end - 1] >= end])


def all_ends(ends_row, many):
    """All ends of the beginning of so many letters, from the greatest one on."""
    found = []
    while many > 0:
        many = ends_row[many - 1]
        found.append(many)
    return found


def fronts_by_ends(ends_row):
    """The complete table of fronts for a row of ends."""
    fronts = [0] * (len(ends_row) - 1)
    for many in range(1, len(ends_row) + 1):
        for end in all_ends(ends_row, many):
            # Longer beginnings come later: so what is kept is the greatest end that begins at this place.
            if end > 0:
                fronts[many - end - 1] = end
    return fronts


def values_behind(ends_row, text):
    """The values that can come behind the ends of the text, each with the least letter that brings it."""
    values = {}
    for end in all_ends(ends_row, len(text)):
        values.setdefault(text[end], end + 1)
    letters = {value: letter for letter, value in values.items()}
    letters[0] = least_other(values)
    return letters


def longer_rows(rows, most):
    """The rows of ends that are longer by one letter, each with its plainest text, of at most so many letters."""
    found = []
    for ends_row, text in rows:
        letters = values_behind(ends_row, text)
        for value, letter in letters.items():
            if most is None or letter < most:
                found.append((ends_row + [value], text + [letter]))
    return found


def front_written(fronts, times, place):
    """The front at a place, from 1 on, of the text written so many times."""
    size = len(fronts) + 1
    rest = times * size - place
    _, at = divmod(place, size)
    if at == 0:
        return rest
    front = fronts[at - 1]
    if front < size - at:
        return min(front, rest)
    # The text's beginning goes on into the next time that it is written, and is compared with it from there on.
    further = fronts[size - at - 1]
    return min(size - at + further, rest) if further < at else rest
