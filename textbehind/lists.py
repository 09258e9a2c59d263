"""What a list of told things says: whether it is possible, what is sure, what clashes."""

from itertools import combinations

from textbehind.checks import check_entry, check_list, check_manner, check_thing, check_things
from textbehind.errors import Impossible, InvalidThings
from textbehind.joins import freest_text, parted_letters
from textbehind.kinds import can_stand, is_needless, kind_of, mask_of, masks_of
from textbehind.kinds import parting_text, showing_texts, stands, surely_has
from textbehind.walks import room_of


def texts_or_impossible(size, things):
    """The texts that show what is sure; Impossible if there are none."""
    texts = showing_texts(size, things, kind_of(things))
    if not texts:
        raise Impossible("no text of this length has the list")
    return texts


def always_alike(texts, place, other):
    """Whether two places are alike in all of these texts."""
    return all([text[place] == text[other] for text in texts])


def never_alike(texts, place, other):
    """Whether two places are unlike in all of these texts."""
    return all([text[place] != text[other] for text in texts])


def is_possible(size, things):
    """Whether some text of this length has the list."""
    check_list(size, things)
    return can_stand(size, things)


def freest(size, things):
    """The freest text of a letters list, None if it is impossible."""
    check_list(size, things)
    if kind_of(things) != "letters":
        raise InvalidThings("a freest text is of a list with things of the manner letters alone")
    return freest_text(size, things)


def classes(size, things):
    """The lists of the places that are surely alike, by their least places."""
    check_list(size, things)
    texts = texts_or_impossible(size, things)
    found = []
    placed = {}
    for place in range(size):
        if place in placed:
            continue
        group = [other for other in range(place, size) if always_alike(texts, place, other)]
        found.append(group)
        for other in group:
            placed[other] = True
    return found


def apart(size, things):
    """The pairs of places that are surely unlike, ascending."""
    check_list(size, things)
    texts = texts_or_impossible(size, things)
    pairs = [(place, other) for place in range(size) for other in range(place + 1, size)]
    if kind_of(things) != "letters":
        return [(place, other) for place, other in pairs if never_alike(texts, place, other)]
    text = texts[0]
    parted = parted_letters(size, things, text)
    lettered = [(min(text[p], text[q]), max(text[p], text[q])) for p, q in pairs]
    return [pair for pair, letters in zip(pairs, lettered) if letters in parted]


def can_be(size, things, manner, entry):
    """The values that the entry can be in the manner, ascending."""
    check_list(size, things)
    check_manner(manner)
    check_entry(size, entry)
    told = [(manner, entry, "is", value) for value in range(room_of(size, entry) + 1)]
    return [thing[3] for thing in told if can_stand(size, things + [thing])]


def follows(size, things, thing):
    """Whether every text that has the list has the thing."""
    check_list(size, things)
    check_thing(size, thing)
    return surely_has(size, things, thing)


def alike(size, things, other):
    """Whether the same texts have both lists."""
    check_list(size, things)
    check_things(size, other)
    return parting_text(size, things, other) is None


def first_different(size, things, other):
    """A text that has just one of the two lists, None if there is none."""
    check_list(size, things)
    check_things(size, other)
    return parting_text(size, things, other)


def halves_of(thing):
    """The two halves of a thing of sort "is"; another one alone."""
    manner, entry, sort, value = thing
    if sort != "is":
        return [thing]
    return [(manner, entry, "least", value), (manner, entry, "most", value)]


def halves(size, things):
    """The list with a "least" and a "most" in the place of each "is"."""
    check_list(size, things)
    return [half for thing in things for half in halves_of(thing)]


def thinned(size, things):
    """What is left if, from the last one on, each thing goes that follows from the others that are left."""
    check_list(size, things)
    masks = masks_of(size, things)
    kept = list(range(len(things)))
    for at in reversed(range(len(things))):
        others = [index for index in kept if index != at]
        if is_needless(size, things, masks, others, at):
            kept = others
    return [things[index] for index in kept]


def clashes(size, things):
    """The least sets of things that are impossible together, as lists of indexes: shorter ones first."""
    check_list(size, things)
    masks = masks_of(size, things)
    found = []
    for many in range(1, len(things) + 1):
        for chosen in combinations(range(len(things)), many):
            wanted = mask_of(chosen)
            within = [clash for clash in found if mask_of(clash) & wanted == mask_of(clash)]
            if not within and not stands(size, things, masks, chosen):
                found.append(list(chosen))
    return found


def strikings(size, things, masks, many):
    """The lists of so many indexes without which the things are possible."""
    indexes = list(range(len(things)))
    struck_out = [list(chosen) for chosen in combinations(indexes, many)]
    return [chosen for chosen in struck_out if stands(size, things, masks, [k for k in indexes if k not in chosen])]


def struck(size, things):
    """All lists of the fewest indexes without which the things are possible."""
    check_list(size, things)
    masks = masks_of(size, things)
    found = []
    many = 0
    # The empty list is possible in every length: so this ends when all things are struck, at the latest.
    while not found:
        found = strikings(size, things, masks, many)
        many += 1
    return found
