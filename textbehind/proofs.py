"""How papers are made: by a thing that chains show to be wrong, or else by placing all places in all ways."""

from textbehind.chains import chain_between, first_held, held_steps, links_of
from textbehind.joins import joined_row
from textbehind.kinds import can_stand
from textbehind.merges import first_text
from textbehind.nodes import Claim, is_shown_wrong, placings


def has_text(size, things, most):
    """Whether some text, of at most so many letters where a number is told, has the list."""
    if most is None:
        return can_stand(size, things)
    return first_text(size, things, [most]) is not None


def unlike_to(classes, placed, last):
    """A place that is placed, joined to the last one and unlike it; None if there is none."""
    for place, letter in placed.items():
        if classes[place] == classes[last] and letter != placed[last]:
            return place
    return None


def leaf_for(claim, classes, links, placed):
    """A node without branches that shows the claim behind these places, None if there is none."""
    for index, thing in enumerate(claim.told):
        if is_shown_wrong(claim.size, thing, placed):
            return ("wrong", index)
    last = len(placed) - 1
    other = None if last < 0 else unlike_to(classes, placed, last)
    return None if other is None else ("joined", other, last, chain_between(links, other, last))


def tree_for(claim, classes, links, placed):
    """A paper that goes on from these places, which are the first ones, by placing the next one."""
    leaf = leaf_for(claim, classes, links, placed)
    if leaf is not None:
        return leaf
    # No text has the list: so there is a leaf where all places are placed, and here there is still one to place.
    place = len(placed)
    ways = placings(claim, placed, place)
    return ("place", place, [tree_for(claim, classes, links, letters) for letters in ways])


def paper_for(size, things, most):
    """A paper that there is no such text, None if there is one."""
    claim = Claim(size, things, most)
    links = links_of(size, claim.joins)
    classes = joined_row(size, [thing for thing in things if thing[0] == "letters"])
    index = first_held(classes, things)
    if index is not None:
        pairs = held_steps(size, things[index])
        return ("held", index, [chain_between(links, place, other) for place, other in pairs])
    if has_text(size, things, most):
        return None
    return tree_for(claim, classes, links, {})
