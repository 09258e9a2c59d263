"""The document's definitions, word for word and slow: what the program is held against.

A set of texts is kept as the bits of one number: bit k stands for the text number k of `texts(size)`.
"""

from functools import lru_cache
from itertools import combinations, product

MANNERS = ("letters", "names", "order")
SORTS = ("is", "least", "most")
ENTRY_WORDS = ("front", "back", "odd", "even", "pair")
WORDS = ENTRY_WORDS + ("mirrors",)


def entries(size, word):
    if word == "front":
        return [("front", i) for i in range(1, size)]
    if word == "back":
        return [("back", i) for i in range(0, size - 1)]
    if word == "odd":
        return [("odd", c) for c in range(0, size)]
    if word == "even":
        return [("even", c) for c in range(1, size)]
    if word == "pair":
        return [("pair", i, j) for i in range(size) for j in range(size) if i < j]
    found = [("odd", 0)] if size else []
    for c in range(1, size):
        found += [("even", c), ("odd", c)]
    return found


def walk(size, start, way):
    places = []
    while 0 <= start < size:
        places.append(start)
        start += way
    return places


def walks(size, entry):
    word, i = entry[:2]
    if word == "front":
        return walk(size, 0, 1), walk(size, i, 1)
    if word == "back":
        return walk(size, size - 1, -1), walk(size, i, -1)
    if word == "odd":
        return walk(size, i - 1, -1), walk(size, i + 1, 1)
    if word == "even":
        return walk(size, i - 1, -1), walk(size, i, 1)
    return walk(size, i, 1), walk(size, entry[2], 1)


def room(size, entry):
    return min(len(places) for places in walks(size, entry))


def sign(a, b):
    return (a > b) - (a < b)


def rows_alike(one, other, manner):
    if manner == "letters":
        return one == other
    steps = range(len(one))
    if manner == "names":
        return all((one[s] == one[t]) == (other[s] == other[t]) for s in steps for t in steps)
    return all(sign(one[s], one[t]) == sign(other[s], other[t]) for s in steps for t in steps)


def agreement(text, manner, entry):
    first, second = walks(len(text), entry)
    for steps in range(room(len(text), entry), 0, -1):
        if rows_alike([text[p] for p in first[:steps]], [text[p] for p in second[:steps]], manner):
            return steps
    return 0


def is_true(text, thing):
    manner, entry, sort, value = thing
    return told_of(agreement(text, manner, entry), sort, value)


def told_of(found, sort, value):
    return {"is": found == value, "least": found >= value, "most": found <= value}[sort]


@lru_cache(maxsize=None)
def texts(size):
    """Texts that stand for all: all over `size` letters, or, of more than 5 places, all up to the letters' names."""
    if size <= 5:
        return [list(text) for text in product(range(size), repeat=size)]
    return [list(text) for text in product(*[range(k + 1) for k in range(size)])]


@lru_cache(maxsize=None)
def agreements(size, manner, entry):
    return [agreement(text, manner, entry) for text in texts(size)]


@lru_cache(maxsize=None)
def having_thing(size, thing):
    manner, entry, sort, value = thing
    found = agreements(size, manner, entry)
    return sum(1 << k for k, number in enumerate(found) if told_of(number, sort, value))


def having(size, things):
    found = (1 << len(texts(size))) - 1
    for thing in things:
        found &= having_thing(size, thing)
    return found


def texts_in(size, found):
    return [text for k, text in enumerate(texts(size)) if found >> k & 1]


def can_be(size, things, manner, entry):
    return [v for v in range(room(size, entry) + 1) if having(size, things + [(manner, entry, "is", v)])]


def follows(size, things, thing):
    return having(size, things) == having(size, things + [thing])


def sure_pairs(size, things, same):
    found = texts_in(size, having(size, things))
    pairs = combinations(range(size), 2)
    return [(p, q) for p, q in pairs if all((text[p] == text[q]) == same for text in found)]


def classes(size, things):
    alike = sure_pairs(size, things, True)
    groups = [[q for q in range(size) if p == q or (min(p, q), max(p, q)) in alike] for p in range(size)]
    return [group for p, group in enumerate(groups) if group[0] == p]


def thinned(size, things):
    kept = list(range(len(things)))
    for at in range(len(things) - 1, -1, -1):
        others = [k for k in kept if k != at]
        if follows(size, [things[k] for k in others], things[at]):
            kept = others
    return [things[k] for k in kept]


def subsets(count):
    return [list(chosen) for many in range(count + 1) for chosen in combinations(range(count), many)]


def clashes(size, things):
    def possible(indexes):
        return having(size, [things[k] for k in indexes]) != 0
    return [s for s in subsets(len(things))
            if not possible(s) and all(possible([k for k in s if k != left]) for left in s)]


def struck(size, things):
    indexes = range(len(things))
    found = [s for s in subsets(len(things)) if having(size, [things[k] for k in indexes if k not in s])]
    return sorted(s for s in found if len(s) == len(found[0]))
