"""Stacks: what can lie beneath what, and the piles that bar: [21], [24], and [22] by them."""

import random
import unittest
from itertools import combinations

import oracle
import stackfacts
from checks import Checks, alike
from oracle import ahead
from queuefacts import put_of, takes_of
from samples import ODD, Integer, Row, behind, every, matched, mixed, together
from shortbars.errors import BadHistory, BadPile, BadValue
from shortbars.piles import bases, can_lie_beneath, does_bar, is_joined, least_pile
from test_spans import LOOSE

EMPTY = (("stack",), ())
WORDS = (("put", 0, None), ("put", 1, None), ("take", None, 0), ("take", None, 1), ("take", None, None))
# 5 is put and taken ahead of 7; 3 is kept, put ahead of both; 9 is free.
SOME = (("stack",), (
    (0, 1, 0, "put", 3, None), (2, 3, 0, "put", 5, None), (4, 5, 0, "put", 7, None), (6, 7, 0, "take", None, 5),
    (8, 9, 0, "take", None, 7), (10, 13, 0, "put", 9, None), (11, 12, 0, "take", None, 9)))
# No two of 5, 6, 7 bar, but all three do: 6 joins 5 and 7, neither of which can lie beneath the other one.
THREE = (("stack",), (
    (0, 1, 0, "put", 5, None), (2, 3, 0, "put", 6, None), (4, 9, 0, "take", None, 5), (6, 7, 0, "put", 7, None),
    (8, 12, 0, "take", None, 6), (10, 11, 0, "take", None, 7)))


def small():
    yield THREE
    for many in (2, 3):
        for history in every("stack", WORDS, many):
            if stackfacts.is_matched(history):
                yield history
    yield from matched(random.Random(121), "stack", 8, 700)
    for history in mixed(random.Random(122), ("stack",), 8, 4, 600):
        if stackfacts.is_matched(history):
            yield history


class TestBeneath(Checks, unittest.TestCase):
    def test_some(self):
        self.tells(True, can_lie_beneath, SOME, 3, 5)
        self.tells(False, can_lie_beneath, SOME, 5, 3)
        self.tells(False, can_lie_beneath, SOME, 5, 7)
        self.tells(False, can_lie_beneath, SOME, 7, 5)
        # Puts that overlap, and takes that do, leave it free.
        calls = ((0, 2, 0, "put", 5, None), (1, 3, 0, "put", 7, None), (4, 6, 0, "take", None, 5),
                 (5, 7, 0, "take", None, 7))
        self.tells(True, can_lie_beneath, (("stack",), calls), 5, 7)
        self.tells(True, can_lie_beneath, (("stack",), calls), 7, 5)
        # Of two that are kept the later one cannot lie beneath.
        kept = (("stack",), behind([("put", 5, None), ("put", 7, None)]))
        self.tells(True, can_lie_beneath, kept, 5, 7)
        self.tells(False, can_lie_beneath, kept, 7, 5)
        # What is taken cannot lie beneath what is kept.
        history = (("stack",), together([("put", 5, None), ("put", 7, None)], (10, 11, 0, "take", None, 5)))
        self.tells(False, can_lie_beneath, history, 5, 7)
        self.tells(True, can_lie_beneath, history, 7, 5)

    def test_against_the_words(self):
        seen = set()
        for history in small():
            values = stackfacts.spanned(history)
            for value in values:
                for far in values:
                    if value != far:
                        wanted = stackfacts.beneath(history, value, far)
                        self.tells(wanted, can_lie_beneath, history, value, far)
                        seen.add((wanted, stackfacts.beneath(history, far, value)))
        self.assertEqual(len(seen), 4)


class TestJoined(Checks, unittest.TestCase):
    def test_some(self):
        for value in (3, 5, 7):
            self.tells(True, is_joined, SOME, (value,))
            self.tells(False, does_bar, SOME, (value,))
            self.tells((value,), bases, SOME, (value,))
        self.tells(True, is_joined, SOME, (5, 7))
        self.tells(True, does_bar, SOME, (5, 7))
        self.tells((), bases, SOME, (5, 7))
        self.tells(True, is_joined, SOME, (3, 5, 7))
        self.tells(False, does_bar, SOME, (3, 5, 7))
        self.tells((3,), bases, SOME, (3, 5, 7))
        self.tells((5, 7), least_pile, SOME)

    def test_apart(self):
        calls = behind([("put", 5, None), ("take", None, 5), ("put", 7, None), ("take", None, 7)])
        history = (("stack",), calls)
        self.tells(False, is_joined, history, (5, 7))
        self.tells(False, does_bar, history, (5, 7))
        # Whether they are joined or not, neither can lie beneath the other one.
        self.tells((), bases, history, (5, 7))
        self.tells(None, least_pile, history)

    def test_a_bridge_joins(self):
        # 5 and 7 have nothing in common, but both meet 6.
        calls = ((0, 1, 0, "put", 5, None), (2, 3, 0, "put", 6, None), (4, 5, 0, "take", None, 5),
                 (6, 7, 0, "put", 7, None), (8, 9, 0, "take", None, 6), (10, 11, 0, "take", None, 7))
        history = (("stack",), calls)
        self.tells(False, is_joined, history, (5, 7))
        self.tells(True, is_joined, history, (5, 6, 7))
        self.tells(True, is_joined, history, (5, 6))
        self.tells((5, 6), least_pile, history)

    def test_a_long_one_ahead_of_short_ones(self):
        calls = ((0, 1, 0, "put", 5, None), (2, 3, 0, "put", 6, None), (4, 5, 0, "take", None, 6),
                 (6, 7, 0, "put", 7, None), (8, 9, 0, "take", None, 7), (10, 11, 0, "take", None, 5))
        history = (("stack",), calls)
        self.tells(True, is_joined, history, (5, 6, 7))
        self.tells(False, is_joined, history, (6, 7))
        self.tells((5,), bases, history, (5, 6, 7))
        self.tells(None, least_pile, history)

    def test_three_of_which_no_two_bar(self):
        for pile in ((5, 6), (5, 7), (6, 7)):
            self.tells(False, does_bar, THREE, pile)
        self.tells(True, does_bar, THREE, (5, 6, 7))
        self.tells((5, 6, 7), least_pile, THREE)
        # Of several with as few values the least one as a tuple is told.
        calls = THREE[1] + ((13, 14, 0, "put", 2, None), (15, 16, 0, "put", 4, None), (17, 18, 0, "take", None, 2),
                            (19, 20, 0, "take", None, 4))
        self.tells((2, 4), least_pile, (("stack",), calls))
        calls = behind([("put", 8, None), ("put", 9, None), ("put", 1, None), ("take", None, 8), ("take", None, 1),
                        ("take", None, 9)])
        self.tells((1, 8), least_pile, (("stack",), calls))

    def test_no_calls(self):
        self.tells(None, least_pile, EMPTY)
        for function in (is_joined, does_bar, bases):
            self.refuses(BadPile, (), function, EMPTY, ())

    def test_ten_calls(self):
        kept = (("stack",), behind([("put", at, None) for at in range(10)]))
        self.tells(True, is_joined, kept, tuple(range(10)))
        self.tells(False, does_bar, kept, tuple(range(10)))
        self.tells((0,), bases, kept, tuple(range(10)))
        self.tells(None, least_pile, kept)
        kept = (("stack",), together([("put", at, None) for at in range(10)]))
        self.tells(tuple(range(10)), bases, kept, tuple(range(10)))
        self.tells(None, least_pile, kept)
        line = (("stack",), behind([("put", at, None) for at in range(5)] + [("take", None, at) for at in range(5)]))
        self.tells((0, 1), least_pile, line)
        self.tells(True, does_bar, line, tuple(range(5)))


class TestAgainstTheWords(Checks, unittest.TestCase):
    def test_all_piles(self):
        sizes = set()
        for history in small():
            barring = []
            for pile in stackfacts.piles(history):
                self.tells(stackfacts.is_joined(history, pile), is_joined, history, pile)
                self.tells(stackfacts.bars(history, pile), does_bar, history, pile)
                self.tells(stackfacts.bases(history, pile), bases, history, pile)
                if stackfacts.bars(history, pile):
                    barring.append(pile)
            least = min(barring, key=lambda pile: (len(pile), pile), default=None)
            self.tells(least, least_pile, history)
            if least is not None:
                sizes.add(len(least))
                self.assertFalse([pile for pile in barring if pile != least and set(pile) <= set(least)])
        self.assertTrue({2, 3} <= sizes)

    def test_piles_of_two(self):
        for history in small():
            for value, far in combinations(stackfacts.spanned(history), 2):
                one, two = stackfacts.span(history, value), stackfacts.span(history, far)
                wanted = stackfacts.meet(one, two) and (self.leads(history, value, far) or self.leads(history, far, value))
                self.assertEqual(does_bar(history, (value, far)), wanted)

    def leads(self, history, value, far):
        takes, others = takes_of(history, value), takes_of(history, far)
        if not ahead(put_of(history, value), put_of(history, far)) or not takes:
            return False
        return not others or ahead(takes[0], others[0])

    def test_it_is_explained_just_where_nothing_bars(self):
        told = set()
        for history in small():
            if len(history[1]) > 7:
                continue
            covered = any(stackfacts.is_covered(history, call, stackfacts.spanned(history)) for call in history[1]
                          if call[3] == "take" and call[5] is None)
            wanted = oracle.explanations(history) != []
            self.assertEqual(wanted, least_pile(history) is None and not covered, history)
            told.add((wanted, covered))
        self.assertEqual(len(told), 3)


class TestRefusals(Checks, unittest.TestCase):
    FUNCTIONS = ((can_lie_beneath, (True, True)), (is_joined, (True,)), (does_bar, (True,)), (bases, (True,)),
                 (least_pile, ()))

    def test_histories(self):
        for function, more in self.FUNCTIONS:
            self.refuses_histories(function, *more)
            self.refuses_sorts(function, ("stack",), *more)
            for calls in LOOSE:
                self.refuses(BadHistory, "match", function, (("stack",), calls), *more)
                self.refuses(BadHistory, "sort", function, (("heads",), calls), *more)

    def test_values(self):
        history = (("stack",), behind([("put", 0, None), ("put", 1, None), ("put", 2, None), ("take", None, 2)])
                   + ((20, 23, 0, "put", 3, None), (21, 22, 0, "take", None, 3)))
        self.refuses_odd(BadValue, lambda thing: type(thing) is int and thing in (0, 2), can_lie_beneath, (history,), (1,))
        self.refuses_odd(BadValue, lambda thing: type(thing) is int and thing in (0, 2), can_lie_beneath, (history, 1))
        self.refuses(BadValue, "first", can_lie_beneath, history, "first", "second")
        self.refuses(BadValue, 3, can_lie_beneath, history, 3, 3)
        self.refuses(BadValue, 1, can_lie_beneath, history, 1, 1)

    def test_piles(self):
        history = (("stack",), behind([("put", 0, None), ("put", 1, None), ("put", 2, None)])
                   + ((20, 23, 0, "put", 3, None), (21, 22, 0, "take", None, 3)))
        rights = [pile for many in (1, 2, 3) for pile in combinations(range(3), many)]
        for function in (is_joined, does_bar, bases):
            self.refuses_odd(BadPile, lambda thing: any(alike(thing, pile) for pile in rights), function, (history,))
            for pile in ((), (3,), (0, 3), (1, 0), (0, 0), [0, 1], (0, True), (4,), (-1,), (0, None), (0, 1, 2, 3), {0: 1}):
                self.refuses(BadPile, pile, function, history, pile)
            for thing in ODD:
                if not (type(thing) is int and thing in (1, 2)):
                    self.refuses(BadPile, (0, thing), function, history, (0, thing))

    def test_what_is_told_is_plain(self):
        self.tells((3,), bases, SOME, Row((Integer(3), Integer(5))))


if __name__ == "__main__":
    unittest.main()
