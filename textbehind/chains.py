"""Chains: how things of the manner letters join one place to another, step by step."""

from textbehind.checks import is_count
from textbehind.joins import joined_steps, wants_unlike
from textbehind.rows import deciding_steps, holds
from textbehind.walks import places_at


def joins_of(size, things):
    """For each thing the pairs of places that it joins, by its steps; none for those of other manners."""
    return [joined_steps(size, thing) if thing[0] == "letters" else [] for thing in things]


def link_end(joins, place, link):
    """Where a pair (index, step) leads to from a place, None if it leads nowhere."""
    if not isinstance(link, tuple) or len(link) != 2:
        return None
    index, step = link
    if not is_count(index) or index >= len(joins) or not is_count(step) or step >= len(joins[index]):
        return None
    one, other = joins[index][step]
    if place == one:
        return other
    return one if place == other else None


def chain_end(joins, place, chain):
    """Where a chain leads to from a place, None if it is no chain from there."""
    if not isinstance(chain, list):
        return None
    for link in chain:
        place = link_end(joins, place, link)
        if place is None:
            return None
    return place


def links_of(size, joins):
    """For each place the places that one step joins to it, each with the index of the thing and the step."""
    links = [[] for _ in range(size)]
    for index, pairs in enumerate(joins):
        for step, (place, other) in enumerate(pairs):
            links[place].append((other, index, step))
            links[other].append((place, index, step))
    return links


def ways_to(links, goal):
    """For each place that some steps join to the goal where a shortest way there goes on, and by what."""
    onward = {}
    last = [goal]
    while last:
        found = []
        for place in last:
            for other, index, step in links[place]:
                if other not in onward:
                    onward[other] = (place, index, step)
                    found.append(other)
        last = found
    return onward


def chain_between(links, start, goal):
    """A shortest chain from one place to another one that is joined to it."""
    onward = ways_to(links, goal)
    chain = []
    place = start
    while place != goal:
        place, index, step = onward[place]
        chain.append((index, step))
    return chain


def held_steps(size, thing):
    """The pairs of places that must be joined for a thing to be held; none if it is of no kind that can be held."""
    manner, entry, sort, value = thing
    if manner != "letters" or not wants_unlike(size, thing):
        return []
    return [places_at(size, entry, value)] if sort == "is" else deciding_steps(size, thing)


def first_held(classes, things):
    """The index of the first thing that chains show to be wrong, by the classes of joined places; None if none is."""
    for index, thing in enumerate(things):
        if thing[0] == "letters" and not holds(classes, thing):
            return index
    return None
