"""The texts with few letters that have a list."""

from textbehind.joins import freest_text, partings
from textbehind.kinds import kind_of
from textbehind.parts import texts_having
from textbehind.rows import letters_in


def due_partings(size, things, row):
    """For each letter of the freest text the partings whose last letter it is."""
    due = [[] for _ in range(letters_in(row))]
    for pairs in partings(size, things, row):
        due[max([high for _, high in pairs])].append(pairs)
    return due


def are_parted(names, due):
    """Whether each of these partings has a pair that the names keep unlike."""
    return all([any([names[low] != names[high] for low, high in pairs]) for pairs in due])


def first_names(due, many, names):
    """The first names, below many, for all letters of a freest text, that begin with these; None if there are none."""
    if len(names) == len(due):
        return names
    # A name that is greater than all by more than one would only be another word for the next one.
    for name in range(min(letters_in(names) + 1, many)):
        longer = names + [name]
        if are_parted(longer, due[len(names)]):
            found = first_names(due, many, longer)
            if found is not None:
                return found
    return None


def first_merged(size, things, limits):
    """The first text of a letters list with the first limit of letters that lets one have it, None if none does."""
    row = freest_text(size, things)
    if row is None:
        return None
    due = due_partings(size, things, row)
    for many in limits:
        names = first_names(due, many, [])
        if names is not None:
            return [names[letter] for letter in row]
    return None


def texts_by_letters(size, things):
    """For each number of letters the texts that have the list, one for each alikeness."""
    found = [[] for _ in range(size + 1)]
    for row in texts_having(size, things, kind_of(things) == "order"):
        found[letters_in(row)].append(row)
    return found


def first_text(size, things, limits):
    """The first text with at most so many letters that has the list, for the first limit that lets one have it."""
    if kind_of(things) == "letters":
        # The text that has the fewest letters comes first among those with the least limit.
        return first_merged(size, things, limits)
    rows = texts_by_letters(size, things)
    for many in limits:
        within = [row for some in rows[:many + 1] for row in some]
        if within:
            return min(within)
    return None
