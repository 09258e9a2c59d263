"""Names lists and order lists: all texts of a length up to alikeness, and those that have a list."""

from textbehind.rows import deciding_steps, letters_in, true_by_steps


def longer_in_names(row):
    """The row with one more letter, one of its own or a new one, in all ways."""
    return [row + [letter] for letter in range(letters_in(row) + 1)]


def with_new_rank(row, rank):
    """The row with one more letter, a new one of this rank."""
    return [letter + 1 if letter >= rank else letter for letter in row] + [rank]


def longer_in_order(row):
    """The row with one more letter, of the rank of one of its own or of a new rank, in all ways."""
    many = letters_in(row)
    return [row + [letter] for letter in range(many)] + [with_new_rank(row, rank) for rank in range(many + 1)]


def with_deciding_steps(size, things):
    """For each number of letters the things that so many first letters decide, with the steps that do it."""
    due = [[] for _ in range(size + 1)]
    for thing in things:
        steps = deciding_steps(size, thing)
        last = max([max(place, other) for place, other in steps], default=-1)
        due[last + 1].append((thing, steps))
    return due


def keeps_to(row, decided):
    """Whether all these things, each with its deciding steps, are true of the row."""
    return all([true_by_steps(row, thing, steps) for thing, steps in decided])


def texts_having(size, things, ordered):
    """All texts that have the list, one for each alikeness: in order if so told, otherwise in names."""
    due = with_deciding_steps(size, things)
    rows = [[]]
    # Rows are left out as soon as their first letters tell against them, so that fewer of them grow on.
    for decided in due[1:]:
        longer = [longer_in_order(row) if ordered else longer_in_names(row) for row in rows]
        rows = [row for some in longer for row in some if keeps_to(row, decided)]
    return rows


def true_masks(size, things, ordered):
    """The sets of indexes of things that are just what is true of some text, each once, as bits of a number."""
    steps = [deciding_steps(size, thing) for thing in things]
    masks = {}
    for row in texts_having(size, [], ordered):
        true = [1 << at for at, thing in enumerate(things) if true_by_steps(row, thing, steps[at])]
        masks[sum(true)] = True
    return list(masks)
