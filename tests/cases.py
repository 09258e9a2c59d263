"""Lists of told things for the tests, and what the tests ask of every function."""

import random
import unittest

from tests import plainly


def some_thing(chance, text, manner, word, truth):
    """A thing of an entry of the word that is true of the text, or one with any value; None if there is no entry."""
    size = len(text)
    entries = plainly.entries(size, word)
    if not entries:
        return None
    entry = chance.choice(entries)
    sort = chance.choice(plainly.SORTS)
    room = plainly.room(size, entry)
    if not truth:
        return (manner, entry, sort, chance.randint(0, room))
    found = plainly.agreement(text, manner, entry)
    low, high = {"is": (found, found), "least": (0, found), "most": (found, room)}[sort]
    return (manner, entry, sort, chance.randint(low, high))


def some_list(chance, size, manners, words, count, truth=0.9):
    """A list of about so many things, most of them true of one text."""
    text = [chance.randrange(chance.choice([1, 2, 2, 3, 5])) for _ in range(size)]
    found = []
    for _ in range(count):
        told = chance.random() < truth
        found.append(some_thing(chance, text, chance.choice(manners), chance.choice(words), told))
    return [thing for thing in found if thing is not None]


def lists_by_word(sizes, each, count=5):
    """For each manner and each word some lists of its things alone, then mixed lists: pairs (size, things)."""
    for manner in plainly.MANNERS:
        for word in plainly.WORDS + ("all",):
            chance = random.Random(f"{manner} {word}")
            words = plainly.ENTRY_WORDS if word == "all" else [word]
            for size in sizes:
                for turn in range(each):
                    manners = [manner] if turn < each - 1 else [manner, "letters"]
                    yield size, some_list(chance, size, manners, words, chance.randint(0, count))


def seen_lists():
    """Lists of every manner and word in texts so short that all of them can be gone over."""
    yield from lists_by_word([0, 1, 2, 3, 4], 4)
    yield from lists_by_word([5], 2)


def longer_lists():
    """Letters lists and names lists in texts of 6 and 7 letters."""
    for size, manners in [(6, ["letters"]), (6, ["names"]), (7, ["letters", "names"]), (7, ["names"])]:
        chance = random.Random(f"{size} {manners}")
        for count in (0, 2, 3, 5):
            yield size, some_list(chance, size, manners, ["pair", "even", "back"], count)


def is_letters_list(things):
    return all(manner == "letters" for manner, _, _, _ in things)


def lists_within(value):
    """All lists that stand in a value, each as often as it stands there."""
    found = [value] if isinstance(value, list) else []
    if isinstance(value, (list, tuple)):
        for item in value:
            found += lists_within(item)
    return found


def spoil(value):
    """Changes every list in a value."""
    for found in lists_within(value):
        found.append("spoilt")


def split_names(arguments):
    """What is passed by position, and what the interface lets pass by name alone."""
    named = {name: value for name, value in arguments.items() if name == "most"}
    return [value for name, value in arguments.items() if name not in named], named


class Calls(unittest.TestCase):
    """What [2] promises of every call."""

    def check_call(self, function, arguments):
        """The arguments, a dict in the order of the parameters, stay; what is returned is new; names may be used."""
        before = repr(arguments)
        first = function(**arguments)
        shown = repr(first)
        within = lists_within(first)
        self.assertEqual(len({id(found) for found in within}), len(within))
        passed = {id(found) for value in arguments.values() for found in lists_within(value)}
        self.assertFalse(passed & {id(found) for found in within})
        spoil(first)
        self.assertEqual(repr(arguments), before)
        positions, named = split_names(arguments)
        self.assertEqual(repr(function(*positions, **named)), shown)
        self.assertEqual(repr(arguments), before)

    def check_wrong(self, function, good, wrong):
        """For each parameter that has an error: each wrong value raises it, whatever stands in those behind it."""
        names = [name for name in good if name in wrong]
        for at, name in enumerate(names):
            error, values = wrong[name]
            behind = {later: wrong[later][1][0] for later in names[at + 1:]}
            for value in values:
                for arguments in ({**good, name: value}, {**good, name: value, **behind}):
                    self.check_raises(error, function, arguments)

    def check_raises(self, error, function, arguments):
        from textbehind.errors import BehindError
        with self.assertRaises(ValueError) as caught:
            function(**arguments)
        self.assertIs(type(caught.exception), error, (function.__name__, arguments))
        self.assertIsInstance(caught.exception, BehindError)
        positions, named = split_names(arguments)
        with self.assertRaises(BehindError) as again:
            function(*positions, **named)
        self.assertIs(type(again.exception), error, (function.__name__, arguments))
        return caught.exception
