"""Numbers of letters and of texts, by going over all texts: what textbehind.letters is held against."""

from itertools import product
from math import factorial

from tests import plainly


def is_canonical(text):
    """Whether the letters are numbered from 0 on in the order in which they come first."""
    return list(dict.fromkeys(text)) == list(range(len(set(text))))


def texts_with_list(size, things):
    """All texts over as many letters as the length; for more than 5 letters, one for each way to name them."""
    found = plainly.texts_in(size, plainly.having(size, things))
    return found if size <= 5 else [text for text in found if is_canonical(text)]


def just(size, things, j):
    """The texts that have the list with just the letters from 0 to j - 1."""
    return [text for text in texts_with_list(size, things) if set(text) == set(range(j))]


def fewest(size, things):
    return min([len(set(text)) for text in texts_with_list(size, things)], default=None)


def plainest(size, things):
    few = fewest(size, things)
    return None if few is None else min(just(size, things, few))


def ways(size, things):
    found = [len(just(size, things, j)) for j in range(size + 1)]
    if size > 5 or any(thing[0] == "order" for thing in things):
        return found
    assert all(number % factorial(j) == 0 for j, number in enumerate(found))
    return [number // factorial(j) for j, number in enumerate(found)]


def over(size, things, count):
    """The number of texts over so many letters that have the list; short texts alone."""
    found = [list(text) for text in product(range(count), repeat=size)]
    return len([text for text in found if all(plainly.is_true(text, thing) for thing in things)])
