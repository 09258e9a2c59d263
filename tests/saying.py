"""A plain reading of [22] to [24]: texts of things, lists and tables, and a console that goes over all texts."""

import re

from tests import counting, plainly

NUMBER = "(?:0|[1-9][0-9]{0,29})"
MANNER = "(?:letters|names|order)"
ENTRY = f"(?:(?:front|back|odd|even) {NUMBER}|pair {NUMBER} {NUMBER})"
THING = f"{MANNER} {ENTRY} (?:is|least|most) {NUMBER}"
LIST = f"(?:{THING}(?:\n{THING})*)?"
ROW = f"(?:(?:{NUMBER}|[?])(?: (?:{NUMBER}|[?]))*)?"
COMMAND = f"text {NUMBER}|tell {THING}|back|things|plain|letters|can {MANNER} {ENTRY}|follows {THING}"
NUMBERS_OF = {"front": 1, "back": 1, "odd": 1, "even": 1, "pair": 2}


def is_of(form, value):
    return isinstance(value, str) and re.fullmatch(form, value, re.ASCII) is not None


def is_number(value):
    return isinstance(value, int) and value is not True and value is not False and value >= 0


def is_word(words, value):
    return isinstance(value, str) and value in words


def is_entry_by_form(value):
    if not isinstance(value, tuple) or not value or not is_word(NUMBERS_OF, value[0]):
        return False
    return len(value) == 1 + NUMBERS_OF[value[0]] and all(is_number(number) for number in value[1:])


def is_thing_by_form(value):
    if not isinstance(value, tuple) or len(value) != 4:
        return False
    manner, entry, sort, number = value
    if not is_word(plainly.MANNERS, manner) or not is_word(plainly.SORTS, sort):
        return False
    return is_entry_by_form(entry) and is_number(number)


def entry_in(words):
    return (words[0],) + tuple(int(word) for word in words[1:])


def thing_in(words):
    return (words[0], entry_in(words[1:-2]), words[-2], int(words[-1]))


def shown(thing):
    manner, entry, sort, value = thing
    return f"{manner} {' '.join(str(part) for part in entry)} {sort} {value}"


def fits_entry(size, entry):
    return entry in plainly.entries(size, entry[0])


def fits_thing(size, thing):
    return fits_entry(size, thing[1]) and thing[3] <= plainly.room(size, thing[1])


class PlainSheet:
    """What a sheet keeps, as a list; each deed gives what is returned, or the name and the fields of the error."""

    def __init__(self, size, lean=False):
        self.size = size
        self.lean = lean
        self.things = []

    def tell(self, thing):
        if not fits_thing(self.size, thing):
            return ("InvalidThing",)
        found = plainly.clashes(self.size, self.things + [thing])
        if found:
            return ("Contradiction", found[0])
        if self.lean and plainly.follows(self.size, self.things, thing):
            return ("Needless", thing)
        self.things.append(thing)
        return len(self.things)

    def undo(self):
        if not self.things:
            return ("NothingToUndo",)
        self.things.pop()
        return None


class PlainConsole:
    """A console of short texts: each command gives the answer, or the name and the fields of the error."""

    def __init__(self):
        self.sheet = None

    def say(self, command):
        if not is_of(COMMAND, command):
            return ("InvalidCommand",)
        words = command.split(" ")
        if words[0] == "text":
            self.sheet = PlainSheet(int(words[1]))
            return "ok"
        return ("NotReady",) if self.sheet is None else self.ask(words)

    def ask(self, words):
        size, things = self.sheet.size, self.sheet.things
        if words[0] == "things":
            return "; ".join(shown(thing) for thing in things)
        if words[0] == "plain":
            return " ".join(str(letter) for letter in counting.plainest(size, things))
        if words[0] == "letters":
            return str(counting.fewest(size, things))
        if words[0] == "back":
            found = self.sheet.undo()
            return "ok" if found is None else found
        if words[0] == "tell":
            found = self.sheet.tell(thing_in(words[1:]))
            return str(found) if isinstance(found, int) else found
        return self.ask_of(words[0], words[1:])

    def ask_of(self, word, words):
        size, things = self.sheet.size, self.sheet.things
        if word == "can":
            entry = entry_in(words[1:])
            if not fits_entry(size, entry):
                return ("InvalidEntry",)
            return " ".join(str(value) for value in plainly.can_be(size, things, words[0], entry))
        thing = thing_in(words)
        if not fits_thing(size, thing):
            return ("InvalidThing",)
        return "yes" if plainly.follows(size, things, thing) else "no"
