"""[9] to [11], [20], [25] (b) and (f), and the heading textbehind/lists.py."""

import random
import unittest

from tests import plainly
from tests.cases import Calls, is_letters_list, longer_lists, seen_lists, some_list, some_thing
from tests.wrongs import GOOD, WRONG
from textbehind import errors
from textbehind.lists import alike, apart, can_be, classes, clashes, first_different, follows
from textbehind.lists import freest, halves, is_possible, struck, thinned

PAIR, MIRROR = ("letters", ("pair", 0, 2), "least", 2), ("letters", ("even", 2), "is", 1)


class ExampleTest(unittest.TestCase):
    def test_the_rows_of_the_interface(self):
        self.assertIs(is_possible(4, [PAIR, MIRROR]), False)
        self.assertEqual(can_be(4, [PAIR], "letters", ("even", 2)), [0, 2])
        self.assertEqual(freest(4, [PAIR]), [0, 1, 0, 1])
        self.assertEqual(classes(4, [PAIR]), [[0, 2], [1, 3]])
        self.assertEqual(clashes(4, [MIRROR, PAIR, ("letters", ("odd", 1), "is", 0)]), [[0, 1], [1, 2]])


class PossibleTest(unittest.TestCase):
    def test_held_against_all_texts(self):
        for size, things in list(seen_lists()) + list(longer_lists()):
            self.assertIs(is_possible(size, things), plainly.having(size, things) != 0, (size, things))

    def test_the_freest_text(self):
        for size, things in list(seen_lists()) + list(longer_lists()):
            if not is_letters_list(things):
                continue
            having = plainly.texts_in(size, plainly.having(size, things))
            found = freest(size, things)
            if not having:
                self.assertIsNone(found)
                continue
            self.assertTrue(all(plainly.is_true(found, thing) for thing in things))
            self.assertEqual(found, [sorted(set(found)).index(letter) for letter in found])
            self.assertEqual(list(dict.fromkeys(found)), list(range(len(set(found)))))
            for text in having:
                self.assertEqual(len(set(zip(found, text))), len(set(found)), (found, text))
            self.assertIn(found, having)

    def test_is_parts_and_most_parts(self):
        entry = ("pair", 0, 2)
        self.assertEqual(freest(4, [("letters", entry, "is", 1)]), [0, 1, 0, 2])
        self.assertEqual(freest(4, [("letters", entry, "most", 1)]), [0, 1, 2, 3])
        self.assertIsNone(freest(4, [("letters", entry, "most", 1), ("letters", entry, "least", 2)]))
        self.assertIsNone(freest(4, [("letters", entry, "most", 1), ("letters", ("back", 1), "least", 2)]))
        self.assertEqual(freest(4, [("letters", entry, "most", 2), ("letters", entry, "least", 2)]), [0, 1, 0, 1])


class SureTest(unittest.TestCase):
    def test_classes_and_apart_held_against_all_texts(self):
        for size, things in list(seen_lists()) + list(longer_lists()):
            if not plainly.having(size, things):
                for function in (classes, apart):
                    with self.assertRaises(errors.Impossible) as caught:
                        function(size, things)
                    self.assertIs(type(caught.exception), errors.Impossible)
                continue
            self.assertEqual(classes(size, things), plainly.classes(size, things), (size, things))
            self.assertEqual(apart(size, things), plainly.sure_pairs(size, things, False), (size, things))

    def test_surely_apart_is_impossible_when_joined(self):
        chance = random.Random("apart")
        for size in (9, 14):
            for _ in range(12):
                things = some_list(chance, size, ["letters"], plainly.WORDS[:5], 7, truth=1)
                parted = apart(size, things)
                groups = classes(size, things)
                self.assertEqual([group[0] for group in groups], sorted(group[0] for group in groups))
                self.assertEqual(sorted(place for group in groups for place in group), list(range(size)))
                for p in range(size):
                    for q in range(p + 1, size):
                        joined = things + [("letters", ("pair", p, q), "least", 1)]
                        unlike = things + [("letters", ("pair", p, q), "is", 0)]
                        self.assertEqual((p, q) in parted, not is_possible(size, joined))
                        together = any(p in group and q in group for group in groups)
                        self.assertEqual(together, not is_possible(size, unlike))


class ValuesTest(unittest.TestCase):
    def test_can_be_held_against_all_texts(self):
        chance = random.Random("can be")
        for size, things in list(seen_lists()) + list(longer_lists()):
            for manner in plainly.MANNERS if size <= 5 else ["letters", "names"]:
                for word in plainly.ENTRY_WORDS:
                    entries = plainly.entries(size, word)
                    for entry in chance.sample(entries, min(len(entries), 2)):
                        expected = plainly.can_be(size, things, manner, entry)
                        self.assertEqual(can_be(size, things, manner, entry), expected, (size, things, manner, entry))

    def test_values_with_gaps(self):
        self.assertEqual(can_be(4, [PAIR], "letters", ("even", 2)), [0, 2])
        self.assertEqual(can_be(6, [("letters", ("odd", 2), "is", 1)], "letters", ("odd", 2)), [1])
        mirrored = [("letters", ("even", 3), "is", 3), ("letters", ("front", 4), "least", 2)]
        self.assertEqual(can_be(6, mirrored, "letters", ("even", 1)), [1])
        parted = [("letters", ("pair", 0, 3), "most", 0), ("letters", ("pair", 1, 4), "least", 1)]
        self.assertEqual(can_be(6, parted, "letters", ("pair", 0, 3)), [0])
        self.assertEqual(can_be(6, parted[1:], "letters", ("pair", 0, 3)), [0, 2, 3])
        self.assertEqual(can_be(6, [("names", ("front", 3), "is", 3)], "names", ("even", 3)), [1, 3])
        self.assertEqual(can_be(4, [("order", ("front", 2), "is", 2)], "order", ("front", 1)), [1, 3])

    def test_follows_held_against_all_texts(self):
        chance = random.Random("follows")
        for size, things in list(seen_lists()) + list(longer_lists()):
            for manner in plainly.MANNERS if size <= 5 else ["letters", "names"]:
                for word in plainly.ENTRY_WORDS:
                    text = [chance.randrange(2) for _ in range(size)]
                    thing = some_thing(chance, text, manner, word, False)
                    if thing is not None:
                        expected = plainly.follows(size, things, thing)
                        self.assertIs(follows(size, things, thing), expected, (size, things, thing))

    def test_each_of_its_things_follows_from_a_list(self):
        for size, things in seen_lists():
            for thing in things:
                self.assertTrue(follows(size, things, thing))


class TwoListsTest(unittest.TestCase):
    def check_two(self, size, things, other):
        same = plainly.having(size, things) == plainly.having(size, other)
        self.assertIs(alike(size, things, other), same, (size, things, other))
        text = first_different(size, things, other)
        if same:
            self.assertIsNone(text)
            return
        self.assertEqual(len(text), size)
        self.assertTrue(all(type(letter) is int and 0 <= letter < size for letter in text))
        has = [all(plainly.is_true(text, thing) for thing in told) for told in (things, other)]
        self.assertEqual(sorted(has), [False, True])

    def test_a_list_and_another_one(self):
        cases = list(seen_lists()) + list(longer_lists())
        for (size, things), (other_size, other) in zip(cases, cases[1:]):
            if size == other_size:
                self.check_two(size, things, other)
                self.check_two(size, other, things)

    def test_a_list_and_what_is_near_it(self):
        chance = random.Random("near")
        for size, things in list(seen_lists()) + list(longer_lists()):
            self.check_two(size, things, list(reversed(things)))
            self.check_two(size, things, things[1:])
            self.check_two(size, things, halves(size, things))
            self.check_two(size, things, things + some_list(chance, size, ["letters"], ["pair", "odd"], 1))

    def test_lists_of_two_manners(self):
        equal = [("letters", ("pair", 0, 1), "least", 1)]
        self.assertTrue(alike(2, equal, equal + [("order", ("pair", 0, 1), "least", 1)]))
        told = [("names", ("pair", 0, 1), "is", 2), ("letters", ("pair", 0, 1), "is", 0)]
        self.assertFalse(alike(3, told, [("order", ("pair", 0, 1), "is", 2), told[1]]))
        self.check_two(3, told, [("order", ("pair", 0, 1), "is", 2), told[1]])
        self.check_two(3, [("names", ("even", 1), "least", 1)], [("letters", ("even", 1), "least", 0)])

    def test_texts_that_differ_in_order_alone(self):
        corners = [("letters", ("pair", p, q), "is", 0) for p, q in [(0, 1), (1, 2), (0, 2)]]
        for sort, value in (("is", 2), ("is", 1), ("least", 2), ("most", 1)):
            told = corners + [("order", ("front", 1), sort, value)]
            self.assertFalse(alike(3, corners, told))
            self.check_two(3, corners, told)
            self.check_two(3, told, corners)


class HalvesTest(unittest.TestCase):
    def test_each_is_becomes_two(self):
        told = [("names", ("odd", 1), "most", 1), MIRROR, PAIR, ("order", ("odd", 0), "is", 0)]
        self.assertEqual(halves(4, told), [told[0], MIRROR[:2] + ("least", 1), MIRROR[:2] + ("most", 1), PAIR,
                                           ("order", ("odd", 0), "least", 0), ("order", ("odd", 0), "most", 0)])
        self.assertEqual(halves(4, []), [])
        for size, things in seen_lists():
            expected = [thing[:2] + (sort, thing[3]) for thing in things
                        for sort in (["least", "most"] if thing[2] == "is" else [thing[2]])]
            self.assertEqual(halves(size, things), expected)
            self.assertEqual(plainly.having(size, things), plainly.having(size, expected))


class ThinnedTest(unittest.TestCase):
    def test_held_against_all_texts(self):
        for size, things in list(seen_lists()) + list(longer_lists()):
            for told in (things, things + things[:2], halves(size, things)):
                self.assertEqual(thinned(size, told), plainly.thinned(size, told), (size, told))

    def test_the_last_one_goes_first(self):
        told = [("letters", ("pair", 0, 2), "least", 1), PAIR, ("letters", ("back", 1), "is", 2)]
        self.assertEqual(thinned(4, told), [PAIR])
        self.assertEqual(thinned(4, [PAIR, MIRROR, MIRROR]), [PAIR, MIRROR])
        self.assertEqual(thinned(4, [("names", ("even", 2), "least", 0), ("letters", ("odd", 0), "is", 0)]), [])


class ClashesTest(unittest.TestCase):
    def cases(self):
        for size, things in list(seen_lists()) + list(longer_lists()):
            yield size, things
        for manner in plainly.MANNERS:
            chance = random.Random(f"clashes {manner}")
            for size in (3, 4, 5):
                for _ in range(12):
                    manners = [manner, chance.choice(plainly.MANNERS)]
                    yield size, some_list(chance, size, manners, plainly.ENTRY_WORDS, 8, truth=0.3)

    def test_clashes_held_against_all_texts(self):
        for size, things in self.cases():
            self.assertEqual(clashes(size, things), plainly.clashes(size, things), (size, things))

    def test_struck_held_against_all_texts(self):
        for size, things in self.cases():
            self.assertEqual(struck(size, things), plainly.struck(size, things), (size, things))

    def test_things_that_stand_twice(self):
        never = ("names", ("even", 1), "most", 0)
        self.assertEqual(clashes(4, [PAIR, never, never]), [[1], [2]])
        self.assertEqual(struck(4, [PAIR, never, never]), [[1, 2]])
        self.assertEqual(clashes(4, [PAIR, MIRROR, PAIR]), [[0, 1], [1, 2]])
        self.assertEqual(struck(4, [PAIR, MIRROR, PAIR]), [[1]])
        self.assertEqual(struck(4, [PAIR, MIRROR]), [[0], [1]])

    def test_shorter_clashes_come_first(self):
        told = [("letters", ("pair", 0, 1), "least", 1), ("letters", ("pair", 1, 2), "least", 1),
                ("letters", ("pair", 0, 2), "is", 0), ("names", ("pair", 0, 2), "is", 0),
                ("letters", ("pair", 0, 1), "most", 0)]
        self.assertEqual(clashes(4, told), [[3], [0, 4], [0, 1, 2]])
        self.assertEqual(struck(4, told), [[0, 3]])


class EdgesTest(unittest.TestCase):
    def test_no_letters(self):
        self.assertTrue(is_possible(0, []))
        self.assertEqual(freest(0, []), [])
        self.assertEqual([classes(0, []), apart(0, []), halves(0, []), thinned(0, []), clashes(0, [])], [[]] * 5)
        self.assertEqual(struck(0, []), [[]])
        self.assertTrue(alike(0, [], []))
        self.assertIsNone(first_different(0, [], []))

    def test_one_letter(self):
        for manner in plainly.MANNERS:
            told = [(manner, ("odd", 0), sort, 0) for sort in plainly.SORTS]
            self.assertTrue(is_possible(1, told))
            self.assertEqual([classes(1, told), apart(1, told), clashes(1, told)], [[[0]], [], []])
            self.assertEqual([struck(1, told), thinned(1, told)], [[[]], []])
            self.assertEqual(can_be(1, told, manner, ("odd", 0)), [0])
            self.assertTrue(follows(1, [], told[0]))
            self.assertTrue(alike(1, told, []))
            self.assertIsNone(first_different(1, told, []))
        self.assertEqual(freest(1, []), [0])

    def test_entries_without_room(self):
        for manner in plainly.MANNERS:
            for size in (2, 3, 5):
                for entry in (("odd", 0), ("odd", size - 1)):
                    for sort in plainly.SORTS:
                        self.assertTrue(follows(size, [], (manner, entry, sort, 0)))
                    self.assertEqual(can_be(size, [], manner, entry), [0])

    def test_what_says_nothing(self):
        for manner in plainly.MANNERS:
            for word in plainly.ENTRY_WORDS:
                for entry in plainly.entries(5, word):
                    room = plainly.room(5, entry)
                    told = [(manner, entry, "least", 0), (manner, entry, "most", room)]
                    self.assertTrue(follows(5, [], told[0]) and follows(5, [], told[1]))
                    self.assertTrue(alike(5, told, []))
                    self.assertEqual(thinned(5, told), [])

    def test_what_is_never_true(self):
        for manner in ("names", "order"):
            for word in plainly.ENTRY_WORDS:
                for entry in plainly.entries(4, word):
                    for sort in ("is", "most"):
                        never = (manner, entry, sort, 0)
                        room = plainly.room(4, entry)
                        self.assertIs(is_possible(4, [never]), room == 0)
                        self.assertEqual(clashes(4, [never]), [[0]] if room else [])
                        self.assertEqual(struck(4, [never]), [[0]] if room else [[]])
                    self.assertTrue(follows(4, [], (manner, entry, "least", min(room, 1))))

    def test_the_empty_list(self):
        for size in (1, 2, 5):
            self.assertTrue(is_possible(size, []))
            self.assertEqual(freest(size, []), list(range(size)))
            self.assertEqual(classes(size, []), [[place] for place in range(size)])
            self.assertEqual([apart(size, []), halves(size, []), thinned(size, []), clashes(size, [])], [[]] * 4)
            self.assertEqual(struck(size, []), [[]])

    def test_impossible_lists(self):
        impossible = [[PAIR, MIRROR], [("names", ("even", 2), "is", 0)], [("order", ("even", 2), "most", 0)],
                      [("letters", ("pair", 0, 1), "is", 3), ("order", ("even", 1), "is", 0)]]
        for told in impossible:
            self.assertFalse(is_possible(4, told))
            for function in (classes, apart):
                with self.assertRaises(errors.Impossible):
                    function(4, told)
            for manner in plainly.MANNERS:
                self.assertEqual(can_be(4, told, manner, ("odd", 1)), [])
                self.assertTrue(follows(4, told, (manner, ("odd", 1), "is", 0)))
                self.assertTrue(follows(4, told, (manner, ("odd", 1), "least", 1)))
            for other in impossible:
                self.assertTrue(alike(4, told, other))
                self.assertIsNone(first_different(4, told, other))
            self.assertFalse(alike(4, told, []))
            self.assertFalse(alike(4, [], told))
            self.assertEqual(len(first_different(4, told, [])), 4)
            self.assertEqual(len(first_different(4, [], told)), 4)
            self.assertFalse(is_possible(4, thinned(4, told)))
        self.assertIsNone(freest(4, impossible[0]))


GOOD_LIST = [GOOD, ("letters", ("even", 2), "most", 2)]
GOOD_CALLS = [
    (is_possible, {}), (freest, {}), (classes, {}), (apart, {}),
    (can_be, {"manner": "letters", "entry": ("even", 2)}), (can_be, {"manner": "order", "entry": ("pair", 0, 2)}),
    (follows, {"thing": ("letters", ("pair", 0, 2), "least", 1)}), (follows, {"thing": ("names", ("odd", 1), "is", 1)}),
    (alike, {"other": [PAIR, MIRROR]}), (alike, {"other": [("order", ("even", 1), "most", 0)]}),
    (first_different, {"other": [PAIR]}), (first_different, {"other": [("names", ("even", 2), "is", 1)]}),
    (halves, {}), (thinned, {}), (clashes, {}), (struck, {}),
]


class CallsTest(Calls):
    def test_arguments_stay_and_lists_are_new(self):
        clashing = [MIRROR, PAIR, ("letters", ("odd", 1), "is", 0)]
        named = [("names", ("even", 2), "is", 1), ("order", ("pair", 0, 1), "least", 2), GOOD]
        for function, more in GOOD_CALLS:
            for things in (GOOD_LIST, [], named, clashing):
                if function is freest and things is named:
                    continue
                if function in (classes, apart) and things is clashing:
                    continue
                self.check_call(function, {"size": 4, "things": list(things), **more})

    def test_wrong_arguments(self):
        for function, more in GOOD_CALLS:
            self.check_wrong(function, {"size": 4, "things": list(GOOD_LIST), **more}, WRONG)

    def test_wrong_arguments_come_before_impossible(self):
        for function in (classes, apart):
            self.check_wrong(function, {"size": 4, "things": [PAIR, GOOD]}, WRONG)
            self.check_raises(errors.InvalidThings, function, {"size": 4, "things": [PAIR, MIRROR, None]})
            self.check_raises(errors.InvalidThings, function, {"size": 3, "things": [PAIR, MIRROR]})

    def test_freest_takes_letters_lists_alone(self):
        for manner in ("names", "order"):
            for told in ([(manner, ("even", 2), "least", 0)], [PAIR, (manner, ("odd", 0), "is", 0), PAIR],
                         [PAIR, MIRROR, (manner, ("even", 1), "is", 0)]):
                self.check_raises(errors.InvalidThings, freest, {"size": 4, "things": told})
                self.check_raises(errors.InvalidSize, freest, {"size": -4, "things": told})


if __name__ == "__main__":
    unittest.main()
