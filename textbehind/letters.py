"""How many letters a list of told things needs, and how many texts there are for each number of letters."""

from math import comb, perm

from textbehind.checks import check_count, check_list
from textbehind.kinds import kind_of
from textbehind.merges import first_text, texts_by_letters
from textbehind.rows import letters_in


def fewest(size, things):
    """The fewest letters of a text that has the list, None if it is impossible."""
    check_list(size, things)
    text = first_text(size, things, list(range(size + 1)))
    return None if text is None else letters_in(text)


def plainest(size, things):
    """The first text of those that have the list with the fewest letters, None if it is impossible."""
    check_list(size, things)
    return first_text(size, things, list(range(size + 1)))


def ways(size, things):
    """For each number j from 0 on the texts that have the list with just j letters, up to alikeness."""
    check_list(size, things)
    return [len(rows) for rows in texts_by_letters(size, things)]


def texts_with(size, things, count):
    """The number of texts over so many letters that have the list."""
    check_list(size, things)
    check_count(count)
    many = [len(rows) for rows in texts_by_letters(size, things)]
    # The letters of an order list stand in the order of the text's ranks; those of others go to any rank.
    if kind_of(things) == "order":
        return sum([number * comb(count, j) for j, number in enumerate(many)])
    return sum([number * perm(count, j) for j, number in enumerate(many)])
