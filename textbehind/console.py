"""A console: a sheet that is told and asked by texts."""

from textbehind.checks import is_one_of
from textbehind.errors import InvalidCommand, NotReady
from textbehind.letters import fewest
from textbehind.live import Sheet
from textbehind.walks import MANNERS
from textbehind.words import entry_of, number_of, show_list, show_row, thing_of

ALONE = ("back", "things", "plain", "letters")


def asked_of(words):
    """The manner and the entry that some words write, None if they write none."""
    entry = entry_of(words[1:])
    return None if entry is None or not is_one_of(MANNERS, words[0]) else (words[0], entry)


def argument_of(word, words):
    """What the words behind the first word of a command write, None if they make no command with it."""
    if word in ALONE:
        # Such a command has no argument; any value but None says that it is one.
        return None if words else ()
    if word == "text":
        return number_of(words[0]) if len(words) == 1 else None
    if word == "tell" or word == "follows":
        return thing_of(words)
    return asked_of(words) if word == "can" else None


def answer_of(sheet, word, argument):
    """The answer of a sheet to a command that is read."""
    if word == "tell":
        return str(sheet(argument))
    if word == "back":
        sheet.undo()
        return "ok"
    if word == "things":
        return show_list(sheet.things).replace("\n", "; ")
    if word == "plain":
        return show_row(sheet.plainest())
    if word == "letters":
        return str(fewest(sheet.size, sheet.things))
    if word == "can":
        manner, entry = argument
        return show_row(sheet.can_be(manner, entry))
    return "yes" if sheet.follows(argument) else "no"


class Console:
    """A sheet, at first none, and the commands to it."""

    def __init__(self):
        self._sheet = None

    def say(self, command):
        """The answer to a command."""
        if not isinstance(command, str):
            raise InvalidCommand("a command is a text")
        words = command.split(" ")
        argument = argument_of(words[0], words[1:])
        if argument is None:
            raise InvalidCommand("this is none of the commands")
        if words[0] == "text":
            self._sheet = Sheet(argument)
            return "ok"
        if self._sheet is None:
            raise NotReady("there is no sheet yet")
        return answer_of(self._sheet, words[0], argument)
