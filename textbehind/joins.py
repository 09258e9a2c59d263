"""Letters lists: which places they join, and the freest text that has them."""

from textbehind.rows import deciding_steps, has_all, numbered
from textbehind.walks import room_of, steps_of


def head_of(heads, place):
    """The place that stands for all that are joined to this one."""
    while heads[place] != place:
        heads[place] = heads[heads[place]]
        place = heads[place]
    return place


def joined_steps(size, thing):
    """The pairs of places that a thing joins."""
    _, entry, sort, value = thing
    return [] if sort == "most" else steps_of(size, entry, value)


def join_places(heads, steps):
    """Joins the two places of each step; heads has for each place one that it is joined to, or the place itself."""
    for place, other in steps:
        head = head_of(heads, other)
        heads[head_of(heads, place)] = head


def joined_row(size, things):
    """The text in which just those places are alike that letters things join, its letters numbered as they come."""
    heads = list(range(size))
    for thing in things:
        join_places(heads, joined_steps(size, thing))
    return numbered([head_of(heads, place) for place in range(size)])


def freest_text(size, things):
    """The freest text of a letters list, None if it is impossible."""
    row = joined_row(size, things)
    return row if has_all(row, things) else None


def unlike_letters(row, steps):
    """The pairs of unlike letters, the lesser one first, that stand at some steps, each once."""
    letters = [sorted([row[place], row[other]]) for place, other in steps]
    return sorted({(low, high) for low, high in letters if low != high})


def wants_unlike(size, thing):
    """Whether the thing is false where the two rows are alike for one step more than its value."""
    _, entry, sort, value = thing
    return sort != "least" and value < room_of(size, entry)


def partings(size, things, row):
    """For each thing that wants an unlike pair: the pairs of letters of the freest text that it can choose from."""
    wanting = [thing for thing in things if wants_unlike(size, thing)]
    return [unlike_letters(row, deciding_steps(size, thing)) for thing in wanting]


def parted_letters(size, things, row):
    """The pairs of letters of the freest text that cannot be made alike, as a dict of True."""
    # With a choice of pairs, none of them is sure.
    return {pairs[0]: True for pairs in partings(size, things, row) if len(pairs) == 1}


def denials(size, thing):
    """Things of which just one is true in each text that does not have this one, none in the others."""
    manner, entry, sort, value = thing
    found = []
    if sort != "most" and value > 0:
        found.append((manner, entry, "most", value - 1))
    if sort != "least" and value < room_of(size, entry):
        found.append((manner, entry, "least", value + 1))
    return found


def text_with_a_denial(size, things, other):
    """A text that has the letters list but not the other one, None if the other one follows."""
    for thing in other:
        for denial in denials(size, thing):
            row = freest_text(size, things + [denial])
            if row is not None:
                return row
    return None
