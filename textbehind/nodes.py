"""Papers: what their nodes show by the places that are placed, a dict of their letters."""

from textbehind.chains import chain_end, held_steps, joins_of
from textbehind.checks import is_count
from textbehind.joins import wants_unlike
from textbehind.kinds import kind_of
from textbehind.rows import agreed, deciding_steps, letters_in
from textbehind.walks import steps_of


class Claim:
    """What a paper is to show: that no text, of at most so many letters where a number is told, has the list."""

    def __init__(self, size, things, most):
        self.size = size
        self.told = list(things)
        self.most = most
        self.ordered = kind_of(things) == "order"
        self.joins = joins_of(size, things)


def with_letter_between(placed, place, rank):
    """The letters with one more place placed, as a new letter that has so many lesser ones."""
    found = {other: letter + 1 if letter >= rank else letter for other, letter in placed.items()}
    found[place] = rank
    return found


def placings(claim, placed, place):
    """For each branch of a place, in their order, the letters that are placed then."""
    many = letters_in(list(placed.values()))
    equal = [{**placed, place: letter} for letter in range(many)]
    if claim.most is not None and many >= claim.most:
        return equal
    if not claim.ordered:
        return equal + [{**placed, place: many}]
    found = [with_letter_between(placed, place, 0)]
    for rank, same in enumerate(equal):
        found.append(same)
        found.append(with_letter_between(placed, place, rank + 1))
    return found


def placed_steps(placed, steps):
    """The steps at which both places are placed."""
    return [(place, other) for place, other in steps if place in placed and other in placed]


def is_shown_wrong(size, thing, placed):
    """Whether the places that are placed tell against a thing, whatever the others are."""
    manner, entry, sort, value = thing
    if sort != "most":
        steps = placed_steps(placed, steps_of(size, entry, value))
        if agreed(placed, manner, steps) < len(steps):
            return True
    if not wants_unlike(size, thing):
        return False
    steps = deciding_steps(size, thing)
    return len(placed_steps(placed, steps)) == len(steps) and agreed(placed, manner, steps) == len(steps)


def shows_wrong(claim, placed, node):
    if len(node) != 2 or not is_count(node[1]) or node[1] >= len(claim.told):
        return False
    return is_shown_wrong(claim.size, claim.told[node[1]], placed)


def shows_joined(claim, placed, node):
    if len(node) != 4:
        return False
    _, place, other, chain = node
    if not is_count(place) or not is_count(other) or place not in placed or other not in placed:
        return False
    return placed[place] != placed[other] and chain_end(claim.joins, place, chain) == other


def shows_held(claim, node):
    if len(node) != 3 or not is_count(node[1]) or node[1] >= len(claim.told) or not isinstance(node[2], list):
        return False
    steps = held_steps(claim.size, claim.told[node[1]])
    if not steps or len(steps) != len(node[2]):
        return False
    return all([chain_end(claim.joins, place, chain) == other for (place, other), chain in zip(steps, node[2])])


def shows_place(claim, placed, node):
    if len(node) != 3 or not is_count(node[1]) or node[1] >= claim.size or node[1] in placed:
        return False
    ways = placings(claim, placed, node[1])
    if not isinstance(node[2], list) or len(node[2]) != len(ways):
        return False
    for letters, branch in zip(ways, node[2]):
        if not shows(claim, letters, branch):
            return False
    return True


def shows(claim, placed, node):
    """Whether any object is a node that shows the claim behind the places that are placed."""
    if not isinstance(node, tuple) or not node or not isinstance(node[0], str):
        return False
    if node[0] == "wrong":
        return shows_wrong(claim, placed, node)
    if node[0] == "joined":
        return shows_joined(claim, placed, node)
    if node[0] == "held":
        return shows_held(claim, node)
    return node[0] == "place" and shows_place(claim, placed, node)
