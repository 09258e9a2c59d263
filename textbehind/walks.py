"""The entries of a text, and the two walks of each."""

MANNERS = ("letters", "names", "order")
WORDS = ("front", "back", "odd", "even", "pair", "mirrors")
ENTRY_WORDS = ("front", "back", "odd", "even", "pair")
COMPLETE_WORDS = ("front", "back", "odd", "even", "mirrors")
SORTS = ("is", "least", "most")


def walks_of(size, entry):
    """The start and the direction of the first walk, then those of the second one."""
    word, place = entry[0], entry[1]
    if word == "front":
        return 0, 1, place, 1
    if word == "back":
        return size - 1, -1, place, -1
    if word == "odd":
        return place - 1, -1, place + 1, 1
    if word == "even":
        return place - 1, -1, place, 1
    return place, 1, entry[2], 1


def steps_within(size, start, way):
    """How many steps a walk makes within the text."""
    return size - start if way == 1 else start + 1


def room_of(size, entry):
    """The greatest number of steps for which both walks stay within the text."""
    start, way, other_start, other_way = walks_of(size, entry)
    return min(steps_within(size, start, way), steps_within(size, other_start, other_way))


def steps_of(size, entry, most):
    """The pairs of places that the walks meet at their first steps, at most so many."""
    start, way, other_start, other_way = walks_of(size, entry)
    many = min(most, room_of(size, entry))
    return [(start + k * way, other_start + k * other_way) for k in range(many)]


def places_at(size, entry, step):
    """The two places that the walks meet at a step, counted from 0."""
    start, way, other_start, other_way = walks_of(size, entry)
    return start + step * way, other_start + step * other_way


def mirror_at(index):
    """The entry of a table of mirrors that has this index."""
    if index & 1:
        return ("even", (index + 1) // 2)
    return ("odd", index // 2)


def entries_of(size, word):
    """All entries of a word in a text of so many letters, in the order of its tables."""
    if word == "front" or word == "even":
        return [(word, place) for place in range(1, size)]
    if word == "back":
        return [(word, place) for place in range(size - 1)]
    if word == "odd":
        return [(word, place) for place in range(size)]
    if word == "pair":
        return [(word, place, later) for place in range(size) for later in range(place + 1, size)]
    return [mirror_at(index) for index in range(2 * size - 1)]


def length_of(word, many):
    """The length of the texts whose complete tables of a word have so many values."""
    if word == "odd":
        return many
    if word == "mirrors":
        return (many + 1) // 2
    return many + 1
