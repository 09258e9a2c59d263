"""[24] and the heading textbehind/console.py: the console, command by command."""

import random
import unittest

from tests import plainly, saying
from tests.wrongs import NO_STRINGS
from textbehind import errors
from textbehind.console import Console
from textbehind.words import show_thing

PAIR, MIRROR = "letters pair 0 2 least 2", "letters even 2 is 1"
# One command of each kind; all but the first one need a sheet.
COMMANDS = ["text 4", f"tell {PAIR}", "back", "things", "plain", "letters", "can letters even 2", f"follows {PAIR}"]
NO_INTEGERS = ["", "-1", "+1", "00", "04", "4.0", "four", "?", "\u0664", "\u00b2", "1" * 31, "1" + "0" * 30, "0x4",
               "1_0", "True", "None", "4\n", "\t4", "4\u00a0", "(4)"]
NO_THINGS = ["", "letters", "letters front 1", "letters front 1 is", "letters front is 2", "letters front 1 2",
             "front 1 is 2", "letter front 1 is 2", "Letters front 1 is 2", "letters mirrors 1 is 2",
             "all front 1 is 2", "letters pairs 0 1 is 2", "letters front 1 was 2", "letters front 1 Is 2",
             "letters front 1 2 is 2",
             "letters pair 1 is 2", "letters pair 0 1 2 is 2", "letters even is 2", "letters front 1 is 2 3",
             "letters front 1 is ?", "letters front 1 is 2\n", "letters front 1 is 2;", "letters  front 1 is 2",
             "letters front 1 is 2; letters front 1 is 2", "letters front 1 is 2\nletters front 1 is 2"]
NO_ASKED = ["", "letters", "letters front", "front 1", "letters mirrors 1", "Letters front 1", "letters Front 1",
            "letters front 1 2", "letters pair 1", "letters pair 0 1 2", "letters front 1 is", "letters front 1 is 2",
            "letters front ?", "letters  front 1", "letters front 1 ", "some front 1", "is front 1", "letters 1 front"]
NO_COMMANDS = ["", " ", "text", "Text 4", "TEXT 4", "texts 4", "text  4", " text 4", "text 4 ", "text 4 5", "text4",
               "text ok", "tell", "follows", "can", "undo", "back 1", "back ", " back", "Back", "things 0", "things ",
               "thing", "plain 4", "plain\n", "plainest", "letters 4", "letters front 1", "letters\t", "letter", "ok",
               "yes", "say back", "back;", "back; back", "back\nback", "\nback", "back\u00a0", "help", "show", "quit",
               PAIR, "is", "front", "names", "\u0442ext 4", "text\t4", "text\n4", "4", "?", "None", "back\u2003"]
NO_COMMANDS += [f"text {word}" for word in NO_INTEGERS]
NO_COMMANDS += [f"{word} {words}" for word in ("tell", "follows") for words in NO_THINGS]
NO_COMMANDS += [f"{word} {PAIR}" for word in ("back", "things", "plain", "letters", "text", "can")]
NO_COMMANDS += [f"can {words}" for words in NO_ASKED]
for number in NO_INTEGERS:
    NO_COMMANDS += [f"tell letters front {number} is 2", f"tell letters front 1 is {number}",
                    f"follows names pair {number} 2 is 1", f"follows names pair 0 {number} is 1",
                    f"can letters front {number}", f"can order pair 0 {number}"]


def outcome(console, command):
    """The answer, or the name and the fields of the error."""
    try:
        return console.say(command)
    except errors.Contradiction as error:
        return ("Contradiction", error.indexes)
    except errors.BehindError as error:
        return (type(error).__name__,)


def console_of(*commands):
    console = Console()
    for command in commands:
        console.say(command)
    return console


def drawn_thing(chance, size):
    """The words of a thing; now and then one that does not fit the size."""
    manner, word = chance.choice(plainly.MANNERS), chance.choice(plainly.ENTRY_WORDS)
    entries = plainly.entries(size, word)
    if not entries or chance.random() < 0.1:
        numbers = sorted(chance.choices(range(size + 3), k=saying.NUMBERS_OF[word]))
        return show_thing((manner, (word,) + tuple(numbers), chance.choice(plainly.SORTS), chance.randint(0, 3)))
    entry = chance.choice(entries)
    found = plainly.agreement([0, 1, 0, 0, 1][:size], manner, entry)
    value = found if chance.random() < 0.7 else chance.randint(0, plainly.room(size, entry) + 1)
    return show_thing((manner, entry, chance.choice(plainly.SORTS), value))


def drawn_command(chance, size):
    word = chance.choice(["tell", "tell", "tell", "back", "things", "plain", "letters", "can", "follows", "wrong"])
    if word == "wrong":
        return chance.choice(NO_COMMANDS)
    if word in ("tell", "follows"):
        return f"{word} {drawn_thing(chance, size)}"
    if word == "can":
        return "can " + " ".join(drawn_thing(chance, size).split(" ")[:-2])
    return word


class AnswersTest(unittest.TestCase):
    def check_answers(self, *rows):
        console = Console()
        for command, answer in rows:
            self.assertEqual(outcome(console, command), answer, command)

    def test_the_eight_commands_with_things(self):
        self.check_answers(
            ("text 4", "ok"), (f"tell {PAIR}", "1"), ("can letters even 2", "0 2"), ("tell letters even 1 is 0", "2"),
            ("plain", "0 1 0 1"), ("letters", "2"), ("follows letters odd 2 is 1", "yes"),
            ("follows letters even 3 least 1", "no"), ("things", f"{PAIR}; letters even 1 is 0"),
            ("can letters front 2", "2"), ("can names pair 0 1", "3"), ("can order front 1", "1"), ("back", "ok"),
            ("things", PAIR), ("plain", "0 0 0 0"), ("letters", "1"), ("back", "ok"), ("things", ""))

    def test_the_eight_commands_without_things(self):
        self.check_answers(
            ("text 3", "ok"), ("things", ""), ("plain", "0 0 0"), ("letters", "1"), ("can letters front 1", "0 1 2"),
            ("can names pair 0 2", "1"), ("can order odd 0", "0"), ("follows letters front 1 least 0", "yes"),
            ("follows names even 1 is 0", "no"), ("back", ("NothingToUndo",)), ("tell names even 1 least 1", "1"))

    def test_no_letters(self):
        self.check_answers(
            ("text 0", "ok"), ("plain", ""), ("letters", "0"), ("things", ""), ("back", ("NothingToUndo",)),
            ("can letters odd 0", ("InvalidEntry",)), ("tell letters odd 0 is 0", ("InvalidThing",)),
            ("follows letters odd 0 is 0", ("InvalidThing",)), ("text 1", "ok"), ("plain", "0"),
            ("can letters odd 0", "0"))

    def test_letters_are_separated_by_one_blank(self):
        console = console_of("text 12")
        for place in range(8):
            console.say(f"tell letters pair {place} {place + 1} is 0")
        self.assertEqual(console.say("plain"), "0 1 0 1 0 1 0 1 0 0 0 0")
        self.assertEqual(console.say("letters"), "2")
        self.assertEqual(console.say("can letters front 11"), "0 1")

    def test_answers_are_texts(self):
        for command in COMMANDS:
            self.assertIs(type(console_of("text 4", f"tell {PAIR}").say(command)), str)

    def test_a_thing_may_be_told_twice(self):
        self.check_answers(("text 4", "ok"), (f"tell {PAIR}", "1"), (f"tell {PAIR}", "2"),
                           ("things", f"{PAIR}; {PAIR}"), ("back", "ok"), ("things", PAIR))

    def test_a_new_text_begins_a_new_sheet(self):
        self.check_answers(("text 4", "ok"), (f"tell {PAIR}", "1"), ("text 4", "ok"), ("things", ""),
                           ("back", ("NothingToUndo",)), (f"tell {MIRROR}", "1"), ("text 6", "ok"), ("things", ""),
                           ("plain", "0 0 0 0 0 0"), ("text 2", "ok"), (f"tell {PAIR}", ("InvalidThing",)))

    def test_consoles_have_their_own_sheets(self):
        one, other = console_of("text 4", f"tell {PAIR}"), Console()
        self.assertEqual(outcome(other, "things"), ("NotReady",))
        other.say("text 2")
        self.assertEqual([one.say("things"), other.say("things"), other.say("plain")], [PAIR, "", "0 0"])

    def test_the_greatest_number_of_letters(self):
        console = Console()
        self.assertEqual(console.say("text " + "9" * 30), "ok")
        self.assertEqual([console.say("things"), outcome(console, "back")], ["", ("NothingToUndo",)])

    def test_by_position_and_by_name(self):
        console = Console()
        self.assertEqual([console.say(command="text 2"), console.say("plain")], ["ok", "0 0"])


class ErrorsTest(unittest.TestCase):
    def check_raises(self, console, command, error):
        for say in (lambda: console.say(command), lambda: console.say(command=command)):
            with self.assertRaises(ValueError) as caught:
                say()
            self.assertIs(type(caught.exception), error, command)
            self.assertIsInstance(caught.exception, errors.BehindError)
        return caught.exception

    def test_no_sheet_yet(self):
        for command in COMMANDS[1:]:
            self.check_raises(Console(), command, errors.NotReady)
        for command in ("tell letters pair 4 0 is 2", "tell letters front 0 least 0", "can letters back 10",
                        "follows order even 0 is " + "9" * 30, "can letters pair 1 1"):
            self.check_raises(Console(), command, errors.NotReady)

    def test_no_command_in_this_form(self):
        for command in NO_COMMANDS + NO_STRINGS:
            self.assertFalse(saying.is_of(saying.COMMAND, command))
            self.check_raises(Console(), command, errors.InvalidCommand)
        console = console_of("text 4", f"tell {PAIR}")
        for command in NO_COMMANDS + NO_STRINGS:
            self.check_raises(console, command, errors.InvalidCommand)
        self.assertEqual([console.say("things"), console.say("plain")], [PAIR, "0 0 0 0"])

    def test_what_does_not_fit_the_size(self):
        console = console_of("text 4")
        for entry in ("front 0", "front 4", "back 3", "odd 4", "even 0", "even 4", "pair 0 4", "pair 1 1", "pair 2 1",
                      "front " + "9" * 30, "pair 0 " + "9" * 30):
            for manner in plainly.MANNERS:
                self.check_raises(console, f"can {manner} {entry}", errors.InvalidEntry)
                for sort in plainly.SORTS:
                    for word in ("tell", "follows"):
                        self.check_raises(console, f"{word} {manner} {entry} {sort} 0", errors.InvalidThing)
        for thing in ("front 1 is 4", "odd 0 least 1", "even 2 most 3", "pair 2 3 is 2", "back 0 is " + "9" * 30):
            for word in ("tell", "follows"):
                self.check_raises(console, f"{word} letters {thing}", errors.InvalidThing)
        self.assertEqual(console.say("things"), "")

    def test_contradictions(self):
        console = console_of("text 4", "tell letters odd 1 least 0", f"tell {PAIR}")
        self.assertEqual(self.check_raises(console, f"tell {MIRROR}", errors.Contradiction).indexes, [1, 2])
        self.assertEqual(self.check_raises(console, "tell names even 1 is 0", errors.Contradiction).indexes, [2])
        self.assertEqual([console.say("things"), console.say("follows " + PAIR)],
                         [f"letters odd 1 least 0; {PAIR}", "yes"])

    def test_nothing_to_undo(self):
        console = console_of("text 4", f"tell {PAIR}", "back")
        for _ in range(2):
            self.check_raises(console, "back", errors.NothingToUndo)
        self.assertEqual(console.say(f"tell {PAIR}"), "1")

    def test_behind_an_error_it_answers_as_before(self):
        asked = ["things", "plain", "letters", "can letters even 2", f"follows {MIRROR}", "can names even 2"]
        wrong = ["text", "text -1", "text 03", "text 1 1", "text " + "1" * 31, "tell letters front 0 is 0", None, 4, [],
                 "back 2", "can letters front 9", "follows letters front 1 is 9", "tell names front 1 is 0"]
        told = ["text 4", f"tell {PAIR}", "tell letters odd 1 is 1"]
        for start in (told[:0], told[:1], told[:2], told):
            console = console_of(*start)
            before = [outcome(console, command) for command in asked]
            for command in wrong + (["back"] if len(start) < 2 else [f"tell {MIRROR}"]):
                self.assertIsInstance(outcome(console, command), tuple)
                self.assertEqual([outcome(console, command) for command in asked], before)


class DrawnTest(unittest.TestCase):
    def test_drawn_commands_held_against_a_plain_console(self):
        seen = set()
        for size in range(6):
            chance = random.Random(f"console {size}")
            for _ in range(6):
                console, plain = Console(), saying.PlainConsole()
                for turn in range(50):
                    command = f"text {size}" if turn == 2 else drawn_command(chance, size)
                    if plain.sheet is not None and len(plain.sheet.things) > 7:
                        command = "back"
                    expected = plain.say(command)
                    self.assertEqual(outcome(console, command), expected, command)
                    seen.add(expected[0] if isinstance(expected, tuple) else command.split(" ")[0])
        self.assertEqual(len(seen), len(COMMANDS) + len(["InvalidCommand", "NotReady", "InvalidEntry", "InvalidThing",
                                                         "Contradiction", "NothingToUndo"]))


if __name__ == "__main__":
    unittest.main()
