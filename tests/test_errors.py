"""[4] and the heading textbehind/errors.py: the classes of the errors."""

import copy
import unittest

from textbehind import errors

OF_TEXT = ["InvalidText", "InvalidSize", "InvalidManner", "InvalidWord", "InvalidEntry", "InvalidThing",
           "InvalidThings", "InvalidRow", "InvalidPlace", "InvalidCount", "Impossible", "NothingToUndo",
           "Unreadable", "InvalidCommand", "NotReady"]
OF_FIELD = {"WrongRow": ("index", 3), "Contradiction": ("indexes", [0, 2]),
            "Needless": ("thing", ("letters", ("front", 1), "is", 2))}


class ErrorsTest(unittest.TestCase):
    def test_all_stand_directly_under_behind_error(self):
        self.assertEqual(errors.BehindError.__bases__, (ValueError,))
        for name in OF_TEXT + list(OF_FIELD):
            self.assertEqual(getattr(errors, name).__bases__, (errors.BehindError,), name)
            self.assertEqual(getattr(errors, name).__module__, "textbehind.errors")

    def test_there_are_no_others(self):
        found = [name for name, value in vars(errors).items() if isinstance(value, type)]
        self.assertEqual(sorted(found), sorted(OF_TEXT + list(OF_FIELD) + ["BehindError"]))

    def test_text_by_position_and_by_name(self):
        for name in OF_TEXT:
            kind = getattr(errors, name)
            for error in (kind("why"), kind(text="why")):
                self.assertEqual(error.text, "why")
                self.assertEqual(str(error), "why")
                self.assertIs(type(error), kind)

    def test_field_by_position_and_by_name(self):
        for name, (field, value) in OF_FIELD.items():
            kind = getattr(errors, name)
            for error in (kind(value), kind(**{field: value})):
                self.assertEqual(getattr(error, field), value)
                self.assertIs(type(getattr(error, field)), type(value))
                self.assertIsInstance(str(error), str)

    def test_one_argument_is_needed(self):
        for name in OF_TEXT + list(OF_FIELD):
            with self.assertRaises(TypeError):
                getattr(errors, name)()
            with self.assertRaises(TypeError):
                getattr(errors, name)("one", "two")

    def test_each_is_caught_as_what_it_is(self):
        for name in OF_TEXT + list(OF_FIELD):
            value = OF_FIELD[name][1] if name in OF_FIELD else "why"
            for caught in (getattr(errors, name), errors.BehindError, ValueError):
                with self.assertRaises(caught):
                    raise getattr(errors, name)(value)

    def test_a_contradiction_keeps_a_list_of_its_own(self):
        indexes = [1, 2]
        for error in (errors.Contradiction(indexes), errors.Contradiction(indexes=indexes)):
            self.assertIsNot(error.indexes, indexes)
            self.assertFalse([kept for kept in error.args if kept is indexes])
            error.indexes.append(7)
            self.assertEqual(indexes, [1, 2])

    def test_copies_have_the_field(self):
        for name, (field, value) in OF_FIELD.items():
            self.assertEqual(getattr(copy.copy(getattr(errors, name)(value)), field), value)


if __name__ == "__main__":
    unittest.main()
