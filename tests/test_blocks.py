"""Blocks of stacks, and their stretches: [25]."""

import random
import unittest

import oracle
import stackfacts
from checks import Checks
from samples import TOP, behind, every, matched, mixed, together
from shortbars.blocks import blocks, is_filled, stretches
from shortbars.errors import BadHistory, BadMoment
from test_piles import SOME, THREE
from test_spans import LOOSE

EMPTY = (("stack",), ())
WORDS = (("put", 0, None), ("put", 1, None), ("take", None, 0), ("take", None, 1), ("take", None, None))
# 9 goes ahead of 2 and 4, which hang together; 1 is free, 6 kept.
ROW = (("stack",), (
    (0, 1, 0, "put", 9, None), (2, 3, 0, "take", None, 9), (4, 5, 0, "put", 4, None), (6, 7, 0, "put", 2, None),
    (8, 9, 0, "take", None, 2), (10, 11, 0, "take", None, 4), (12, 15, 0, "put", 1, None), (13, 14, 0, "take", None, 1),
    (16, 17, 0, "put", 6, None)))


def small():
    yield THREE
    for many in (2, 3):
        yield from (history for history in every("stack", WORDS, many) if stackfacts.is_matched(history))
    yield from matched(random.Random(151), "stack", 8, 500)
    yield from (history for history in mixed(random.Random(152), ("stack",), 8, 4, 400) if stackfacts.is_matched(history))


class TestBlocks(Checks, unittest.TestCase):
    def test_no_calls(self):
        self.tells((), blocks, EMPTY)
        self.tells((), stretches, EMPTY)
        for moment in (0, 1, TOP):
            self.tells(False, is_filled, EMPTY, moment)

    def test_some(self):
        self.tells(((9,), (2, 4), (6,)), blocks, ROW)
        self.tells(((1, 2), (5, 10), (17, None)), stretches, ROW)
        filled = (1, 2, 5, 6, 7, 8, 9, 10, 17, 18, 1000, TOP)
        for moment in filled:
            self.tells(True, is_filled, ROW, moment)
        for moment in (0, 3, 4, 11, 12, 13, 14, 15, 16):
            self.tells(False, is_filled, ROW, moment)
        self.tells(((3, 5, 7),), blocks, SOME)
        self.tells(((1, None),), stretches, SOME)
        self.tells(((5, 6, 7),), blocks, THREE)
        self.tells(((1, 10),), stretches, THREE)

    def test_free_values_are_in_none(self):
        history = (("stack",), together([("put", 1, None), ("take", None, 1), ("take", None, None)]))
        self.tells((), blocks, history)
        self.tells((), stretches, history)
        self.tells(False, is_filled, history, 2)

    def test_a_moment_between_those_of_calls(self):
        history = (("stack",), ((0, 10, 0, "put", 1, None), (20, 30, 0, "take", None, 1)))
        for moment, wanted in ((9, False), (10, True), (11, True), (15, True), (20, True), (21, False)):
            self.tells(wanted, is_filled, history, moment)

    def test_ten_calls(self):
        kept = (("stack",), behind([("put", 9 - at, None) for at in range(10)]))
        self.tells((tuple(range(10)),), blocks, kept)
        self.tells(((1, None),), stretches, kept)
        row = (("stack",), behind([(word, value, told) for at in range(5)
                                   for word, value, told in (("put", at, None), ("take", None, at))]))
        self.tells(((0,), (1,), (2,), (3,), (4,)), blocks, row)
        self.tells(tuple((4 * at + 1, 4 * at + 2) for at in range(5)), stretches, row)

    def test_against_the_words(self):
        sizes = set()
        for history in small():
            wanted = stackfacts.blocks(history)
            self.tells(wanted, blocks, history)
            spans = tuple(stackfacts.stretch(history, block) for block in wanted)
            self.tells(spans, stretches, history)
            sizes.add(len(wanted))
            for moment in range(2 * len(history[1]) + 3):
                inside = any(begin <= moment and (end is None or moment <= end) for begin, end in spans)
                self.tells(inside, is_filled, history, moment)
        self.assertTrue({0, 1, 2, 3} <= sizes)

    def test_each_value_is_in_one_and_stretches_lie_apart(self):
        for history in small():
            values = [value for block in blocks(history) for value in block]
            self.assertEqual(sorted(values), stackfacts.spanned(history))
            rows = stretches(history)
            for (_, end), (begin, _) in zip(rows, rows[1:]):
                self.assertLess(end, begin)


class TestWhatIsIn(Checks, unittest.TestCase):
    def explained(self):
        for history in small():
            if len(history[1]) <= 7:
                rows = oracle.explanations(history)
                if rows:
                    yield history, rows

    def test_something_is_in_at_each_moment_of_a_stretch(self):
        chance = random.Random(153)
        for history, rows in self.explained():
            moments = sorted(moment for call in history[1] for moment in call[:2])
            for row in chance.sample(rows, min(4, len(rows))):
                points = oracle.placed(chance, history, row)
                for moment in moments:
                    if is_filled(history, moment):
                        self.assertNotEqual(stackfacts.contents(history, points, moment), [])

    def test_nothing_may_be_in_just_between_stretches(self):
        # An empty answer that is all between two moments can be just where nothing is in by some explanation.
        seen = set()
        for history, _ in self.explained():
            for gap in range(-1, 2 * len(history[1])):
                if len(history[1]) > 5 or gap < 0 and not history[1]:
                    continue
                begins = sorted(moment for call in history[1] for moment in call[:2])
                if gap < 0 or gap not in begins:
                    continue
                spans = stretches(history)
                inside = any(begin <= gap and (end is None or gap < end) for begin, end in spans)
                self.assertEqual(oracle.explanations(stackfacts.with_empty(history, gap)) == [], inside, (history, gap))
                seen.add(inside)
        self.assertEqual(seen, {True, False})


class TestRefusals(Checks, unittest.TestCase):
    def test_histories(self):
        for function, more in ((blocks, ()), (stretches, ()), (is_filled, (None,))):
            self.refuses_histories(function, *more)
            self.refuses_sorts(function, ("stack",), *more)
            for calls in LOOSE:
                self.refuses(BadHistory, "match", function, (("stack",), calls), *more)
                self.refuses(BadHistory, "sort", function, (("heads",), calls), *more)

    def test_moments(self):
        def is_right(thing):
            return type(thing) is int and 0 <= thing <= TOP
        self.refuses_odd(BadMoment, is_right, is_filled, (ROW,))
        self.refuses_odd(BadMoment, is_right, is_filled, (EMPTY,))


if __name__ == "__main__":
    unittest.main()
