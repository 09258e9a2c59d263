"""A plain reading of [12], sentence by sentence: what papers are, and papers made in any order of places.

What is placed is a list of groups of places: those of one letter stand together; in an order list the groups ascend,
in others they stand in the order in which their letters were placed first.
"""

from tests import plainly


def is_integer(value):
    return isinstance(value, int) and not isinstance(value, bool) and value >= 0


def is_ordered(things):
    return any(thing[0] == "order" for thing in things)


def letter(groups, place):
    found = [k for k, group in enumerate(groups) if place in group]
    return found[0] if found else None


def goes_on(groups, place, ordered, most):
    """What is placed in each branch of a place."""
    def joined(k):
        return [group + [place] if at == k else group for at, group in enumerate(groups)]
    old = [joined(k) for k in range(len(groups))]
    if most is not None and len(groups) >= most:
        return old
    if not ordered:
        return old + [groups + [[place]]]
    found = []
    for k in range(len(groups)):
        found += [groups[:k] + [[place]] + groups[k:], old[k]]
    return found + [groups + [[place]]]


def unlike_somewhere(manner, pairs):
    """Whether some steps, pairs of letters that are placed, tell that two rows are not alike."""
    if manner == "letters":
        return any(one != other for one, other in pairs)
    if manner == "names":
        return any((a == c) != (b == d) for a, b in pairs for c, d in pairs)
    return any(plainly.sign(a, c) != plainly.sign(b, d) for a, b in pairs for c, d in pairs)


def thing_is_wrong(size, thing, groups):
    manner, entry, sort, value = thing
    first, second = plainly.walks(size, entry)
    pairs = [(letter(groups, p), letter(groups, q)) for p, q in zip(first, second)]
    if sort != "most":
        if unlike_somewhere(manner, [pair for pair in pairs[:value] if None not in pair]):
            return True
    if sort != "least" and value < plainly.room(size, entry):
        rows = pairs[:value + 1]
        if not any(None in pair for pair in rows):
            return plainly.rows_alike([one for one, _ in rows], [other for _, other in rows], manner)
    return False


def chain_leads(size, things, chain, start, goal):
    if not isinstance(chain, list):
        return False
    at = start
    for pair in chain:
        if not isinstance(pair, tuple) or len(pair) != 2 or not all(is_integer(part) for part in pair):
            return False
        index, step = pair
        if index >= len(things):
            return False
        manner, entry, sort, value = things[index]
        if manner != "letters" or sort not in ("is", "least") or step >= value:
            return False
        both = [places[step] for places in plainly.walks(size, entry)]
        if at not in both:
            return False
        at = both[1 - both.index(at)]
    return at == goal


def held_is_right(size, things, index, chains):
    if not is_integer(index) or index >= len(things) or not isinstance(chains, list):
        return False
    manner, entry, sort, value = things[index]
    if manner != "letters" or sort == "least" or value >= plainly.room(size, entry):
        return False
    steps = [value] if sort == "is" else list(range(value + 1))
    first, second = plainly.walks(size, entry)
    return len(chains) == len(steps) and all(
        chain_leads(size, things, chain, first[step], second[step]) for step, chain in zip(steps, chains))


def is_paper(size, things, node, most=None, groups=()):
    groups = list(groups)
    if not isinstance(node, tuple) or len(node) < 2 or not isinstance(node[0], str):
        return False
    placed = [place for group in groups for place in group]
    if node[0] == "wrong" and len(node) == 2:
        return is_integer(node[1]) and node[1] < len(things) and thing_is_wrong(size, things[node[1]], groups)
    if node[0] == "joined" and len(node) == 4:
        _, p, q, chain = node
        if not is_integer(p) or not is_integer(q) or p not in placed or q not in placed:
            return False
        return letter(groups, p) != letter(groups, q) and chain_leads(size, things, chain, p, q)
    if node[0] == "held" and len(node) == 3:
        return held_is_right(size, things, node[1], node[2])
    if node[0] == "place" and len(node) == 3:
        _, p, branches = node
        if not is_integer(p) or p >= size or p in placed or not isinstance(branches, list):
            return False
        ways = goes_on(groups, p, is_ordered(things), most)
        return len(ways) == len(branches) and all(
            is_paper(size, things, branch, most, way) for branch, way in zip(branches, ways))
    return False


def leaves(size, things, groups):
    """All nodes of the sort "wrong" that are right here."""
    return [("wrong", k) for k, thing in enumerate(things) if thing_is_wrong(size, thing, groups)]


def made_paper(size, things, most, chance, late=False, groups=()):
    """A paper that places the places in any order, for a list that has no such text; late: with all of them placed."""
    groups = list(groups)
    rest = [p for p in range(size) if letter(groups, p) is None]
    found = [] if late and rest else leaves(size, things, groups)
    if found:
        return chance.choice(found)
    p = chance.choice(rest)
    ways = goes_on(groups, p, is_ordered(things), most)
    return ("place", p, [made_paper(size, things, most, chance, late, way) for way in ways])


def nodes(paper):
    return 1 + (sum(nodes(branch) for branch in paper[2]) if paper[0] == "place" else 0)


def depth(paper):
    return 1 + (max([depth(branch) for branch in paper[2]], default=0) if paper[0] == "place" else 0)


def chains(paper):
    if paper[0] == "place":
        return [chain for branch in paper[2] for chain in chains(branch)]
    return {"wrong": [], "joined": [paper[-1]], "held": paper[-1]}[paper[0]]
