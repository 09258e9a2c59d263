"""[12], [20], [25] (a), and the heading textbehind/papers.py: which papers there are, and what they show."""

import random
import unittest
from itertools import combinations

from tests import counting, plainly, reading
from tests.cases import Calls, is_letters_list, longer_lists, seen_lists, some_list
from tests.wrongs import GOOD, WRONG, Never, Same
from textbehind import errors
from textbehind.papers import judge, refusal

PAIR, MIRROR = ("letters", ("pair", 0, 2), "least", 2), ("letters", ("even", 2), "is", 1)
HELD = ("held", 1, [[(0, 0), (1, 0), (0, 1)]])


def unlike(places):
    """All these places are of different letters."""
    return [("letters", ("pair", p, q), "is", 0) for p, q in combinations(places, 2)]


def wrong_lists():
    """Lists of each kind of which many are impossible."""
    for manners in (["letters"], ["names"], ["order"], ["names", "letters"], list(plainly.MANNERS)):
        chance = random.Random(f"wrong {manners}")
        for size in (1, 2, 3, 4, 5):
            for _ in range(8):
                yield size, some_list(chance, size, manners, plainly.ENTRY_WORDS, 5, truth=0.4)


def no_text(size, things, most):
    few = counting.fewest(size, things)
    return few is None or most is not None and few > most


def claims():
    """Lists and limits that no text has, and such that some text has: (size, things, most, whether none has it)."""
    for size, things in list(seen_lists()) + list(wrong_lists()) + list(longer_lists()):
        for most in [None] + list(range(size + 2)):
            yield size, things, most, no_text(size, things, most)


class ExampleTest(unittest.TestCase):
    def test_the_rows_of_the_interface(self):
        self.assertIs(judge(4, [PAIR, MIRROR], HELD), True)
        self.assertIs(judge(4, [PAIR, MIRROR], refusal(4, [PAIR, MIRROR])), True)
        self.assertIsNone(refusal(4, [PAIR]))
        self.assertIs(judge(2, [], ("place", 1, [("place", 0, [])]), most=0), False)
        self.assertIs(judge(1, [], ("place", 0, []), most=0), True)


class RefusalTest(unittest.TestCase):
    def check_paper(self, size, things, most, paper):
        self.assertTrue(reading.is_paper(size, things, paper, most), (size, things, most, paper))
        self.assertIs(judge(size, things, paper, most=most), True, (size, things, most, paper))
        self.assertLessEqual(reading.nodes(paper), 6000)
        self.assertLessEqual(reading.depth(paper), 12)
        self.assertLessEqual(max([len(chain) for chain in reading.chains(paper)], default=0), 60)

    def test_a_text_or_a_paper_and_never_both(self):
        for size, things, most, none in claims():
            paper = refusal(size, things, most=most)
            self.assertIs(paper is not None, none, (size, things, most))
            if none:
                self.check_paper(size, things, most, paper)

    def test_no_limit_is_the_same_as_none_told(self):
        for size, things in list(seen_lists()) + list(wrong_lists()):
            self.assertEqual(refusal(size, things), refusal(size, things, most=None))

    def test_limits_of_no_letters(self):
        for manner in plainly.MANNERS:
            for size in (1, 2, 5):
                told = [(manner, ("odd", 0), "is", 0)]
                self.check_paper(size, told, 0, refusal(size, told, most=0))
                self.assertIsNone(refusal(size, told, most=1))
        self.assertIsNone(refusal(0, [], most=0))
        self.assertIsNone(refusal(0, []))

    def test_limits_beyond_the_length(self):
        for most in (8, 9, 100, 10 ** 6):
            self.assertIsNone(refusal(8, unlike(range(8)), most=most))
            told = unlike(range(8)) + [("letters", ("pair", 0, 1), "least", 1)]
            self.check_paper(8, told, most, refusal(8, told, most=most))
            self.assertIsNone(refusal(3, [("names", ("front", 1), "least", 2)], most=most))
            told = [("order", ("front", 1), "most", 0)]
            self.check_paper(3, told, most, refusal(3, told, most=most))
        self.check_paper(8, unlike(range(8)), 7, refusal(8, unlike(range(8)), most=7))

    def test_things_that_say_nothing_refuse_nothing(self):
        for manner in plainly.MANNERS:
            for word in plainly.ENTRY_WORDS:
                for entry in plainly.entries(4, word):
                    told = [(manner, entry, "least", 0), (manner, entry, "most", plainly.room(4, entry))]
                    for most in (None, 1, 4):
                        self.assertIsNone(refusal(4, told, most=most))
                    self.check_paper(4, told, 0, refusal(4, told, most=0))

    def test_what_is_never_true_in_names_and_order(self):
        for manner in ("names", "order"):
            for word in plainly.ENTRY_WORDS:
                for entry in plainly.entries(4, word):
                    for sort in ("is", "most"):
                        told = [(manner, entry, sort, 0)]
                        if plainly.room(4, entry) == 0:
                            self.assertIsNone(refusal(4, told))
                        else:
                            self.check_paper(4, told, None, refusal(4, told))


class JudgeTest(unittest.TestCase):
    def check_judge(self, size, things, paper, right, most=None):
        self.assertIs(judge(size, things, paper, most=most), right, (size, things, paper, most))
        self.assertIs(reading.is_paper(size, things, paper, most), right, (size, things, paper, most))

    def test_papers_that_place_in_any_order(self):
        chance = random.Random("any order")
        for size, things, most, none in claims():
            if not none or size > 5 or chance.random() < 0.7:
                continue
            # A paper whose leaves come late places all places before: in texts of 5 letters these are too many here.
            for late in (False, True) if size < 5 else (False,):
                paper = reading.made_paper(size, things, most, chance, late)
                self.assertIs(judge(size, things, paper, most=most), True, (size, things, most, paper))

    def test_a_paper_of_another_list(self):
        """The paper of one list, passed for another one, for another limit or for another length."""
        chance = random.Random("other")
        found = [(size, things, most, refusal(size, things, most=most)) for size, things, most, none in claims()
                 if none and size <= 5]
        for size, things, most, none in claims():
            if size > 5:
                continue
            for _ in range(2):
                paper = chance.choice(found)[3]
                told = judge(size, things, paper, most=most)
                self.assertIs(told, reading.is_paper(size, things, paper, most))
                self.assertTrue(none or not told)

    def test_no_paper_for_what_some_text_has(self):
        """Placing all places in all ways, with any node at the end, shows nothing where some text has the list."""
        chance = random.Random("possible")
        for size, things, most, none in claims():
            if none or size > 4 or chance.random() < 0.5:
                continue
            nodes = [("wrong", k) for k in range(len(things) + 1)] + [("joined", 0, 1, []), ("held", 0, [[]])]

            def grown(groups):
                rest = [p for p in range(size) if reading.letter(groups, p) is None]
                found = reading.leaves(size, things, groups)
                if found or not rest:
                    return chance.choice(found or nodes)
                place = chance.choice(rest)
                ways = reading.goes_on(groups, place, reading.is_ordered(things), most)
                return ("place", place, [grown(way) for way in ways])
            self.check_judge(size, things, grown([]), False, most)

    def test_chains_of_no_pairs_and_longer_ones(self):
        told = [("letters", ("front", 1), "least", 3), ("letters", ("pair", 0, 2), "most", 1)]
        there, on = [(0, 0), (0, 1)], [(0, 1), (0, 2)]
        self.check_judge(4, told, ("held", 1, [there, on]), True)
        self.check_judge(4, told, ("held", 1, [[(0, 0)] * 3 + [(0, 1)] * 3, on + [(0, 2)] * 2]), True)
        self.check_judge(4, told, ("held", 1, [there, on + [(0, 2)]]), False)
        self.check_judge(4, told, ("held", 1, [on, there]), False)
        self.check_judge(4, told, ("held", 1, [there]), False)
        self.check_judge(4, told, ("held", 1, [there, on, []]), False)
        self.check_judge(4, told, ("held", 1, [[], []]), False)
        self.check_judge(4, told, ("held", 0, [there, on]), False)
        self.check_judge(4, told, ("held", 1, [[(0, 0), (0, 1), (0, 2)], on]), False)
        self.check_judge(4, told, ("held", 1, [[(0, 0), (1, 1)], on]), False)
        self.check_judge(4, told, ("held", 1, [[(0, 0), (0, 3)], on]), False)

    def test_held_is_takes_one_chain(self):
        told = [("letters", ("pair", 0, 1), "is", 1), ("letters", ("pair", 1, 2), "least", 1)]
        self.check_judge(4, told, ("held", 0, [[(1, 0)]]), True)
        self.check_judge(4, told, ("held", 0, [[(0, 0)], [(1, 0)]]), False)
        self.check_judge(4, told, ("held", 0, [(1, 0)]), False)
        self.check_judge(4, told, ("held", 0, []), False)
        self.check_judge(4, told, ("held", 1, [[(1, 0)]]), False)
        self.check_judge(4, [told[0][:2] + ("most", 0), told[1]], ("held", 0, [[(1, 0)]]), False)

    def test_held_at_the_room(self):
        told = [("letters", ("pair", 0, 2), "is", 2), ("letters", ("pair", 0, 2), "most", 2)]
        for chains in ([], [[]], [[(0, 0)], [(0, 1)]], [[(0, 0)], [(0, 1)], []]):
            self.check_judge(4, told, ("held", 0, chains), False)
            self.check_judge(4, told, ("held", 1, chains), False)

    def test_joined(self):
        told = [("letters", ("pair", 0, 1), "least", 2), ("letters", ("pair", 0, 2), "is", 0)]
        short, long = [(0, 0), (0, 1)], [(0, 0), (0, 0), (0, 0), (0, 1)]
        for chain in (short, long):
            tree = ("place", 0, [("place", 2, [("wrong", 1), ("joined", 0, 2, chain)])])
            self.check_judge(3, told, tree, True)
            self.check_judge(3, told, tree, True, 2)
            turned = ("place", 2, [("place", 0, [("wrong", 1), ("joined", 2, 0, chain[::-1])])])
            self.check_judge(3, told, turned, True)
            for bent in (("joined", 2, 0, chain), ("joined", 0, 1, chain), ("joined", 0, 2, chain[:-1]),
                         ("joined", 0, 2, chain[1:]), ("joined", 0, 0, []), ("joined", 0, 2, []),
                         ("joined", 0, 2, tuple(chain)), ("joined", 0, 2, [list(pair) for pair in chain])):
                self.check_judge(3, told, ("place", 0, [("place", 2, [("wrong", 1), bent])]), False)
            # In the first branch the two places are alike.
            self.check_judge(3, told, ("place", 0, [("place", 2, [("joined", 0, 2, chain)] * 2)]), False)
        self.check_judge(3, told, ("joined", 0, 2, short), False)

    def test_joined_and_held_in_names_lists_and_order_lists(self):
        joins = ("letters", ("pair", 0, 1), "least", 2)
        for manner in ("names", "order"):
            told = [(manner, ("front", 1), "least", 1), joins, ("letters", ("pair", 0, 2), "is", 0)]
            chain = [(1, 0), (1, 1)]
            self.check_judge(3, told, ("held", 2, [chain]), True)
            apart, same = ("joined", 0, 2, chain), ("wrong", 2)
            ways = {"names": [same, apart], "order": [apart, same, apart]}[manner]
            self.check_judge(3, told, ("place", 0, [("place", 2, ways)]), True)
            self.check_judge(3, told, ("place", 0, [("place", 2, ways[1:] + ways[:1])]), False)
            self.check_judge(3, told, ("place", 0, [("place", 2, [same, apart, same])]), False)
            # Things of other manners join nothing.
            for other in ("names", "order"):
                least = (other, ("pair", 0, 1), "least", 2)
                self.check_judge(3, [told[0], least, told[2]], ("held", 2, [chain]), False)
                self.check_judge(3, [told[0], joins, (other, ("pair", 0, 2), "is", 0)], ("held", 2, [chain]), False)

    def test_wrong_by_unlike_letters(self):
        told = [("letters", ("pair", 0, 2), "least", 2), ("letters", ("pair", 1, 3), "is", 0)]
        ways = [("wrong", 1), ("wrong", 0)]
        self.check_judge(4, told, ("place", 1, [("place", 3, ways)]), True)
        self.check_judge(4, told, ("place", 3, [("place", 1, ways)]), True)
        self.check_judge(4, told, ("place", 1, [("place", 3, ways[::-1])]), False)
        self.check_judge(4, told, ("place", 1, [("place", 3, [("wrong", 0), ("wrong", 0)])]), False)
        # The step at which they are unlike lies beyond the value.
        less = [told[0][:3] + (1,), told[1]]
        self.check_judge(4, less, ("place", 1, [("place", 3, ways)]), False)
        self.check_judge(4, told, ("wrong", 0), False)

    def test_wrong_wants_all_steps_that_are_alike(self):
        told = [("letters", ("pair", 0, 2), "most", 1), ("letters", ("pair", 0, 2), "least", 2)]
        one = ("place", 0, [("place", 2, [("wrong", 0), ("wrong", 1)])])
        self.check_judge(4, told, one, False)
        both = ("place", 1, [("place", 3, [("wrong", 0), ("wrong", 1)])])
        self.check_judge(4, told, ("place", 0, [("place", 2, [both, ("wrong", 1)])]), False)
        last = ("place", 3, [("wrong", 1), ("wrong", 0), ("wrong", 1)])
        first = ("place", 3, [("wrong", 0), ("wrong", 1)])
        self.check_judge(4, told, ("place", 0, [("place", 2, [("place", 1, [first, last]), ("wrong", 1)])]), True)

    def test_wrong_in_names_takes_two_steps(self):
        told = [("names", ("pair", 0, 2), "least", 2)] + unlike([0, 1]) + [("letters", ("pair", 2, 3), "least", 1)]

        def tree(third):
            return ("place", 0, [("place", 1, [("wrong", 1), ("place", 2, third)])])
        # The place 3 is like the place 2, and the thing of names is wrong; or it is not, and the last thing is.
        ways = [("place", 3, [("wrong", 2) if letter != same else ("wrong", 0) for letter in range(many)])
                for same, many in ((0, 3), (1, 3), (2, 4))]
        self.check_judge(4, told, tree(ways), True)
        self.check_judge(4, told, tree(ways), False, 2)
        self.check_judge(4, told, tree([("place", 3, way[2][:2]) for way in ways[:2]]), True, 2)
        self.check_judge(4, [told[0][:3] + (1,)] + told[1:], tree(ways), False)
        self.check_judge(4, [("names", ("pair", 0, 2), "most", 2)] + told[1:], tree(ways), False)
        self.check_judge(4, told, tree([("wrong", 0)] * 3), False)
        self.check_judge(4, told, tree([ways[0], ways[1], ("wrong", 0)]), False)

    def test_wrong_in_names_the_other_way_about(self):
        told = [("names", ("front", 1), "is", 2), ("letters", ("pair", 0, 1), "least", 1)] + unlike([1, 2])
        third = [("wrong", 2), ("wrong", 0)]
        self.check_judge(3, told, ("place", 0, [("place", 1, [("place", 2, third), ("wrong", 1)])]), True)
        self.check_judge(3, told, ("place", 0, [("place", 1, [("place", 2, third[::-1]), ("wrong", 1)])]), False)

    def test_wrong_in_names_and_order_at_one_step(self):
        for manner, ways in (("names", 2), ("order", 3)):
            for sort in ("is", "most"):
                told = [(manner, ("even", 2), sort, 0)]
                self.check_judge(4, told, ("place", 1, [("place", 2, [("wrong", 0)] * ways)]), True)
                self.check_judge(4, told, ("place", 1, [("place", 3, [("wrong", 0)] * ways)]), False)
                self.check_judge(4, told, ("place", 1, [("wrong", 0)]), False)
                self.check_judge(4, [(manner, ("odd", 0), sort, 0)], ("place", 0, [("wrong", 0)]), False)

    def test_wrong_in_order(self):
        told = [("order", ("pair", 0, 1), "least", 2), ("order", ("pair", 0, 1), "most", 1)]
        # Both walks fall, stay or rise: in turn "most" and "least" are wrong.
        below = ("place", 2, [("wrong", 1), ("wrong", 0), ("wrong", 0), ("wrong", 0), ("wrong", 0)])
        same = ("place", 2, [("wrong", 0), ("wrong", 1), ("wrong", 0)])
        above = ("place", 2, [("wrong", 0), ("wrong", 0), ("wrong", 0), ("wrong", 0), ("wrong", 1)])
        self.check_judge(3, told, ("place", 0, [("place", 1, [below, same, above])]), True)
        self.check_judge(3, told, ("place", 0, [("place", 1, [above, same, below])]), False)
        self.check_judge(3, told, ("place", 0, [("place", 1, [below, same])]), False)
        two = ("place", 2, [("wrong", 0), ("wrong", 0)])
        self.check_judge(3, told, ("place", 0, [("place", 1, [two, same, two])]), True, 2)
        self.check_judge(3, told, ("place", 0, [("place", 1, [two, same, two])]), False)
        self.check_judge(3, told, ("place", 0, [("place", 1, [below, same, above])]), False, 2)
        self.check_judge(3, told, ("place", 0, [("place", 1, [("place", 2, [("wrong", 1)])])]), True, 1)

    def test_new_letters_up_to_the_limit(self):
        told = unlike([0, 1, 2])
        third = ("place", 2, [("wrong", 1), ("wrong", 2)])
        tree = ("place", 0, [("place", 1, [("wrong", 0), third])])
        self.check_judge(3, told, tree, True, 2)
        self.check_judge(3, told, tree, False)
        self.check_judge(3, told, tree, False, 3)
        self.check_judge(3, told, tree, False, 1)
        self.check_judge(3, told, ("place", 0, [("place", 1, [("wrong", 0)])]), True, 1)
        self.check_judge(3, told, ("place", 2, []), True, 0)
        self.check_judge(3, told, ("place", 3, []), False, 0)
        self.check_judge(0, [], ("place", 0, []), False, 0)
        self.check_judge(3, told, ("place", 0, [("place", 0, [])]), False, 0)

    def test_letters_in_the_order_in_which_they_were_placed(self):
        told = [("letters", ("pair", 0, 1), "is", 0), ("letters", ("pair", 0, 2), "least", 1)]
        # Behind the places 1 and 0, the first letter is that of the place 1.
        tree = ("place", 1, [("place", 0, [("wrong", 0), ("place", 2, [("wrong", 1), ("wrong", 0), ("wrong", 1)])])])
        self.check_judge(3, told + unlike([0, 2]), tree, False)
        more = told + unlike([0, 2])
        right = ("place", 1, [("place", 0, [("wrong", 0), ("place", 2, [("wrong", 1), ("wrong", 2), ("wrong", 1)])])])
        self.check_judge(3, more, right, True)
        bent = ("place", 1, [("place", 0, [("wrong", 0), ("place", 2, [("wrong", 2), ("wrong", 1), ("wrong", 1)])])])
        self.check_judge(3, more, bent, False)

    def test_a_letters_list_may_place_without_a_limit(self):
        told = [("letters", ("pair", 0, 1), "is", 0), ("letters", ("pair", 0, 1), "least", 1)]
        self.check_judge(2, told, ("place", 0, [("place", 1, [("wrong", 0), ("wrong", 1)])]), True)
        self.check_judge(2, told, ("place", 0, [("place", 1, [("held", 0, [[(1, 0)]]), ("wrong", 1)])]), True)
        self.check_judge(2, told, ("place", 0, [("held", 0, [[(1, 0)]])]), True)


def parts_of(node):
    """A node with what stands within it, as often as it stands there."""
    yield node
    if isinstance(node, (list, tuple)):
        for part in node:
            yield from parts_of(part)


def bent_at(node, at, bend):
    """The value with the part that has this number, from 0 on, bent; and the number that comes behind the value."""
    if at == 0:
        return bend(node)
    at -= 1
    found = []
    for part in node if isinstance(node, (list, tuple)) else ():
        many = len(list(parts_of(part)))
        found.append(bent_at(part, at, bend) if 0 <= at < many else part)
        at -= many
    return type(node)(found)


JUNK = [None, True, False, -1, 10 ** 29, -10 ** 29, "", "wrong", "place", "held", "joined", b"wrong", (), [], {}, {1},
        (0,), [0], ("wrong",), ("place",), ("held",), ("joined",), ("wrong", 0), ["wrong", 0], ("place", 0, []), (0, 0),
        [[]], [[(0, 0)]], object(), int, len, range(2), {"wrong": 0}, ((((),),),), [[[[]]]], (None, None, None),
        Same(), Never(), (Same(), 0), (Never(), 0), ("place", Same(), []), ("place", Never(), []), ("wrong", Never()),
        ("held", 0, [[(Never(), Never())]])]


def bends(chance):
    """What may be wrong at one part of a paper."""
    def swap(value):
        return {list: tuple, tuple: list}.get(type(value), str)(value)

    def turn(value):
        return value[::-1] if isinstance(value, (list, tuple, str)) else value

    def shorten(value):
        return value[:-1] if isinstance(value, (list, tuple, str)) else value

    def begin_later(value):
        return value[1:] if isinstance(value, (list, tuple, str)) else value

    def double(value):
        return value + value[-1:] if isinstance(value, (list, tuple, str)) else value

    def shift(value):
        return value + chance.choice([-1, 1, 10 ** 29]) if isinstance(value, int) else value

    def as_truth(value):
        return bool(value) if isinstance(value, int) else value

    def junk(value):
        return chance.choice(JUNK)
    return [swap, turn, shorten, begin_later, double, shift, as_truth, junk, shift, junk]


class BentTest(unittest.TestCase):
    def good_papers(self):
        chance = random.Random("good")
        told = [("letters", ("front", 1), "least", 3), ("letters", ("pair", 0, 2), "most", 1),
                ("names", ("odd", 1), "is", 1)]
        chains = [[(0, 0), (0, 1)], [(0, 1), (0, 2)]]
        yield 4, told, None, ("held", 1, chains)
        yield 4, [PAIR, MIRROR], None, HELD
        third = ("place", 2, [("wrong", 1), ("wrong", 2)])
        yield 3, unlike([0, 1, 2]), 2, ("place", 0, [("place", 1, [("wrong", 0), third])])
        joins = [("letters", ("pair", 0, 1), "least", 2), ("letters", ("pair", 0, 2), "is", 0),
                 ("order", ("odd", 0), "is", 0)]
        leaf = ("joined", 0, 2, [(0, 0), (0, 1)])
        yield 3, joins, None, ("place", 0, [("place", 2, [leaf, ("wrong", 1), leaf])])
        yield 3, joins[:2], None, ("place", 0, [("place", 2, [("wrong", 1), leaf])])
        for size, things, most, none in claims():
            if none and 0 < size <= 4 and chance.random() < 0.12:
                yield size, things, most, reading.made_paper(size, things, most, chance)
                yield size, things, most, refusal(size, things, most=most)

    def test_bent_papers_are_judged_as_a_plain_reading_judges_them(self):
        chance = random.Random("bent")
        refused = 0
        for size, things, most, paper in self.good_papers():
            self.assertIs(judge(size, things, paper, most=most), True)
            many = len(list(parts_of(paper)))
            for bend in bends(chance):
                for at in chance.sample(range(many), min(many, 6)):
                    bent = bent_at(paper, at, bend)
                    told = judge(size, things, bent, most=most)
                    self.assertIs(told, reading.is_paper(size, things, bent, most), (size, things, most, bent))
                    refused += not told
        self.assertGreater(refused, 5000)

    def test_each_part_of_a_paper_must_be_of_its_kind(self):
        told = [("letters", ("pair", 0, 1), "least", 2), ("letters", ("pair", 0, 2), "is", 0)]
        chain = [(0, 0), (0, 1)]

        def tree(wrong=("wrong", 1), joined=("joined", 0, 2, chain), second=("place", 2), first=("place", 0)):
            return first + ([second + ([wrong, joined],)],)
        self.assertIs(judge(3, told, tree()), True)
        for index in (0, 2, -1, -2, True, False, None, "1", (1,), [1], 10 ** 29, object()):
            self.assertIs(judge(3, told, tree(wrong=("wrong", index))), False, index)
            self.assertIs(judge(3, told, tree(joined=("joined", 0, 2, [(0, 0), (index, 1)]))), index == 0 and
                          index is not False, index)
        for place in (1, 3, -1, -3, True, False, None, "2", (2,), [2], 10 ** 29, object()):
            self.assertIs(judge(3, told, tree(second=("place", place))), False, place)
            self.assertIs(judge(3, told, tree(first=("place", place))), False, place)
            self.assertIs(judge(3, told, tree(joined=("joined", 0, place, chain))), False, place)
            self.assertIs(judge(3, told, tree(joined=("joined", place, 2, chain))), False, place)
        for name in ("Wrong", "joined", "held", "place", "", "right", b"wrong", None, 0, ("wrong",), ["wrong"]):
            self.assertIs(judge(3, told, tree(wrong=(name, 1))), False, name)
        for step in (2, -1, -2, True, False, None, "1", (1,), 10 ** 29):
            self.assertIs(judge(3, told, tree(joined=("joined", 0, 2, [(0, 0), (0, step)]))), False, step)
        for pair in ([0, 1], (0,), (0, 1, 1), (0, 1, 0), (), "01", ((0, 1),), {0: 1}, None, 0, (0, (1,)), ([0], 1)):
            self.assertIs(judge(3, told, tree(joined=("joined", 0, 2, [(0, 0), pair]))), False, pair)
        for bent in (("wrong",), ("wrong", 1, 1), ("wrong", 1, []), ["wrong", 1], (("wrong", 1),), ("wrong", (1,))):
            self.assertIs(judge(3, told, tree(wrong=bent)), False, bent)
        for bent in (("joined", 0, 2), ("joined", 0, 2, chain, []), ["joined", 0, 2, chain], ("joined", 0, chain),
                     ("joined", (0, 2), chain), ("joined", 0, 2, tuple(chain)), ("joined", 0, 2, (0, 1)),
                     ("joined", 0, 2, [chain]), ("joined", 0, 2, None), ("joined", 0, 2, {0: 0}), ("joined",)):
            self.assertIs(judge(3, told, tree(joined=bent)), False, bent)

    def test_each_branch_must_be_there(self):
        told = [("letters", ("pair", 0, 1), "least", 2), ("letters", ("pair", 0, 2), "is", 0)]
        right = [("wrong", 1), ("joined", 0, 2, [(0, 0), (0, 1)])]
        self.assertIs(judge(3, told, ("place", 0, [("place", 2, right)])), True)
        for branches in ([], right[:1], right[1:], right[::-1], right + right[1:], right[:1] + right, tuple(right),
                         [right], right + [None], [None] + right, {0: right}, None, "wr", right[0], (right,)):
            self.assertIs(judge(3, told, ("place", 0, [("place", 2, branches)])), False, branches)
            self.assertIs(judge(3, told, ("place", 0, branches)), False, branches)
        for bent in (("place", 2), ("place", 2, right, []), ("place", right, 2), ["place", 2, right], ("place",)):
            self.assertIs(judge(3, told, ("place", 0, [bent])), False, bent)
        twice = ("place", 0, [("place", 0, [("place", 2, right)])])
        self.assertIs(judge(3, told, twice), False)

    def test_any_object_at_all(self):
        rests = [(Same(),), (Same(), Same()), (0, Never()), (0, [Never()]), (0, [[Never()]]), (0, [Same()]),
                 (Same(), 0, []), (0, Never(), []), (0, 0, Never()), (0, 0, [Same()]), (Never(), Never(), [])]
        named = [(name,) + rest for name in ("wrong", "joined", "held", "place") for rest in rests]
        objects = named + JUNK + WRONG["things"][1] + WRONG["thing"][1] + WRONG["text"][1]
        for size, things in ((0, []), (1, []), (4, [PAIR, MIRROR]), (3, unlike([0, 1, 2])),
                             (3, [("order", ("front", 1), "is", 0)])):
            for most in (None, 0, 2):
                for value in objects:
                    right = reading.is_paper(size, things, value, most)
                    self.assertIs(judge(size, things, value, most=most), right, value)
                    self.assertTrue(not right or value == ("place", 0, []), value)


    def test_objects_nested_deep(self):
        for wrapped in (lambda value: ("place", 0, [value]), lambda value: [value], lambda value: (value,),
                        lambda value: ("held", 0, [[value]]), lambda value: {"wrong": value}):
            value = ("wrong", 0)
            for _ in range(30):
                value = wrapped(value)
                self.assertIs(judge(4, [PAIR, MIRROR], value), False)
                self.assertIs(judge(4, unlike([0, 1]), value, most=1), False)

    def test_a_paper_of_one_branch_each(self):
        paper = ("wrong", 0)
        for place in range(40):
            paper = ("place", place, [paper])
        self.assertIs(judge(40, unlike([0, 1]), paper, most=1), True)
        self.assertIs(judge(40, unlike([0, 1]), paper, most=2), False)
        self.assertIs(judge(40, unlike([0, 1]), paper[2][0], most=1), True)


class CallsTest(Calls):
    GOOD_LISTS = [[GOOD], [], [PAIR, MIRROR], unlike([0, 1, 2]), [("names", ("even", 2), "is", 0)],
                  [("order", ("odd", 1), "most", 0)], unlike([0, 1]) + [("order", ("front", 1), "least", 2)]]

    def test_arguments_stay_and_lists_are_new(self):
        for things in self.GOOD_LISTS:
            for most in (None, 0, 1, 2, 5):
                self.check_call(refusal, {"size": 4, "things": list(things), "most": most})
                paper = refusal(4, things, most=most)
                for passed in (paper, HELD, [paper], None):
                    self.check_call(judge, {"size": 4, "things": list(things), "paper": passed, "most": most})

    def test_no_list_stands_in_two_places_of_a_paper(self):
        for size, things, most, none in claims():
            if none:
                paper = refusal(size, things, most=most)
                found = [id(part) for part in parts_of(paper) if isinstance(part, list)]
                self.assertEqual(len(found), len(set(found)))

    def test_wrong_arguments(self):
        for most in (None, 2):
            self.check_wrong(refusal, {"size": 4, "things": [GOOD], "most": most}, WRONG)
        for paper in (HELD, None, object()):
            self.check_wrong(judge, {"size": 4, "things": [PAIR, MIRROR], "paper": paper, "most": None}, WRONG)

    def test_a_wrong_limit_is_an_error_for_impossible_lists_too(self):
        for things in self.GOOD_LISTS:
            for most in (True, False, -1, "2", [2], (2,), "", {}):
                self.check_raises(errors.InvalidCount, refusal, {"size": 4, "things": things, "most": most})
                self.check_raises(errors.InvalidCount, judge,
                                  {"size": 4, "things": things, "paper": HELD, "most": most})

    def test_the_limit_goes_by_name_alone(self):
        with self.assertRaises(TypeError):
            refusal(4, [PAIR], 2)
        with self.assertRaises(TypeError):
            judge(4, [PAIR], HELD, 2)

    def test_letters_lists_are_refused_by_what_is_held_or_placed(self):
        for size, things in list(seen_lists()) + list(wrong_lists()):
            paper = refusal(size, things)
            if is_letters_list(things) and paper is not None:
                self.assertTrue(reading.is_paper(size, things, paper))


if __name__ == "__main__":
    unittest.main()
