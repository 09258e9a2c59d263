"""The three kinds of lists, and what is asked of each in its own way."""

from itertools import combinations

from textbehind.joins import denials, freest_text, text_with_a_denial
from textbehind.parts import texts_having, true_masks
from textbehind.rows import has_all


def kind_of(things):
    """The kind of a list: letters, names or order."""
    manners = [thing[0] for thing in things]
    if "order" in manners:
        return "order"
    return "names" if "names" in manners else "letters"


def showing_texts(size, things, kind):
    """Texts that have the list: the freest one alone for letters lists, otherwise all of them up to alikeness."""
    if kind == "letters":
        row = freest_text(size, things)
        return [] if row is None else [row]
    return texts_having(size, things, kind == "order")


def can_stand(size, things):
    """Whether the list is possible."""
    return len(showing_texts(size, things, kind_of(things))) > 0


def surely_has(size, things, thing):
    """Whether every text that has the list has the thing."""
    return not any([can_stand(size, things + [denial]) for denial in denials(size, thing)])


def first_unlike(rows, things):
    """The first of these texts that does not have the list, None if all have it."""
    for row in rows:
        if not has_all(row, things):
            return row
    return None


def parting_text(size, things, other):
    """A text that has just one of two lists, None if they are alike."""
    kind = kind_of(things + other)
    if kind == "letters":
        row = text_with_a_denial(size, things, other)
        return text_with_a_denial(size, other, things) if row is None else row
    row = first_unlike(texts_having(size, things, kind == "order"), other)
    return first_unlike(texts_having(size, other, kind == "order"), things) if row is None else row


def masks_of(size, things):
    """What is true together, as true_masks tells it; None for a letters list, which is asked by its freest text."""
    kind = kind_of(things)
    return None if kind == "letters" else true_masks(size, things, kind == "order")


def mask_of(indexes):
    """Different indexes as the bits of a number."""
    return sum([1 << index for index in indexes])


def stands(size, things, masks, indexes):
    """Whether the things with these indexes are possible together."""
    if masks is None:
        return can_stand(size, [things[index] for index in indexes])
    wanted = mask_of(indexes)
    return any([mask & wanted == wanted for mask in masks])


def is_needless(size, things, masks, indexes, at):
    """Whether the thing at this index follows from those with the others."""
    if masks is None:
        return surely_has(size, [things[index] for index in indexes], things[at])
    wanted = mask_of(indexes)
    return all([mask >> at & 1 == 1 for mask in masks if mask & wanted == wanted])


def first_clash(size, things):
    """The first clash of a list that is impossible, but possible without its last thing; None if it is possible."""
    masks = masks_of(size, things)
    last = len(things) - 1
    # The last thing is in every clash; and the first choice that is impossible with it has no lesser one in it.
    for many in range(len(things)):
        for chosen in combinations(range(last), many):
            indexes = list(chosen) + [last]
            if not stands(size, things, masks, indexes):
                return indexes
    return None
