"""Marks, kins, sure spans, what is forced, and odds: [10], [11]."""

import random
import unittest
from itertools import permutations

import cellfacts
import oracle
from checks import Checks
from samples import ODD, TOP, Integer, Row, behind, every, mixed, together
from shortbars.cells import is_forced, kin_of, marks_of, odds_in, span_of
from shortbars.errors import BadValue

EMPTY = (("cell",), ())
# 5 is written, then read; None is read meanwhile; 3 is written and never read; 9 is read and never written.
SOME = (("cell",), (
    (0, 2, 0, "write", 5, None), (1, 6, 0, "read", None, None), (3, 5, 0, "read", None, 5), (4, 11, 0, "write", 3, None),
    (7, 8, 0, "read", None, 5), (9, 10, 0, "read", None, 9)))
WORDS = (("write", 0, None), ("write", 1, None), ("read", None, 0), ("read", None, 1), ("read", None, None))


def small():
    for many in (1, 2, 3):
        yield from every("cell", WORDS, many)
    yield from mixed(random.Random(41), ("cell",), 7, 4, 400)


class TestMarks(Checks, unittest.TestCase):
    def test_no_calls(self):
        self.tells((), marks_of, EMPTY)
        self.tells((), odds_in, EMPTY)
        for function in (kin_of, span_of):
            for value in (None, 0, 5):
                self.refuses(BadValue, value, function, EMPTY, value)

    def test_some(self):
        self.tells((None, 3, 5, 9), marks_of, SOME)
        self.tells((1,), kin_of, SOME, None)
        self.tells((3,), kin_of, SOME, 3)
        self.tells((0, 2, 4), kin_of, SOME, 5)
        self.tells((5,), kin_of, SOME, 9)
        self.tells((None, 1), span_of, SOME, None)
        self.tells(None, span_of, SOME, 3)
        self.tells((2, 7), span_of, SOME, 5)
        self.tells(None, span_of, SOME, 9)
        # 5 ends at 2, and 9 begins at 9; None begins at 1.
        self.tells(True, is_forced, SOME, 5, 9)
        self.tells(False, is_forced, SOME, 9, 5)
        self.tells(True, is_forced, SOME, None, 5)
        self.tells(False, is_forced, SOME, 5, None)
        self.tells(True, is_forced, SOME, 5, 3)
        self.tells(False, is_forced, SOME, 3, 5)
        self.tells((), odds_in, SOME)

    def test_values_at_their_ends(self):
        history = (("cell",), behind([("read", None, None), ("write", 0, None), ("read", None, TOP), ("write", TOP, None)]))
        self.tells((None, 0, TOP), marks_of, history)
        self.tells((2, 3), kin_of, history, TOP)
        self.tells((5, 6), span_of, history, TOP)
        self.tells(None, span_of, history, 0)
        self.tells((None, 0), span_of, history, None)

    def test_odds(self):
        calls = ((0, 1, 0, "write", 5, None), (2, 3, 0, "write", 7, None), (4, 5, 0, "read", None, 5),
                 (6, 7, 0, "read", None, None), (8, 9, 0, "read", None, 7))
        self.tells(((None, 5), (None, 7), (5, 7)), odds_in, (("cell",), calls))
        # Spans that have nothing in common, or lie one behind the other, are not at odds.
        self.tells((), odds_in, (("cell",), (calls[0], (2, 3, 0, "read", None, 5), (4, 5, 0, "write", 7, None),
                                             (6, 7, 0, "read", None, 7))))

    def test_ten_calls(self):
        history = (("cell",), together([("write", at, None) for at in range(5)] + [("read", None, 9 - at)
                                                                                     for at in range(5)]))
        self.tells(tuple(range(10)), marks_of, history)
        self.tells((), odds_in, history)
        self.tells(None, span_of, history, 4)
        self.tells((9,), kin_of, history, 5)


class TestAgainstTheWords(Checks, unittest.TestCase):
    def test_all(self):
        seen = set()
        for history in small():
            calls = history[1]
            kins = cellfacts.kins(history)
            self.tells(tuple(kins), marks_of, history)
            self.tells(cellfacts.odds(history), odds_in, history)
            seen.add(len(cellfacts.odds(history)))
            for mark, kin in kins.items():
                self.tells(kin, kin_of, history, mark)
                near = min(calls[number][1] for number in kin)
                far = max(calls[number][0] for number in kin)
                span = (None, far) if mark is None else (near, far) if near < far else None
                self.tells(span, span_of, history, mark)
                for other in kins:
                    if other != mark:
                        self.tells(cellfacts.forced(history, mark, other), is_forced, history, mark, other)
        self.assertTrue({0, 1, 2} <= seen)

    def test_what_spans_tell_of_odds(self):
        for history in small():
            at_odds = odds_in(history)
            marks = marks_of(history)
            for at, mark in enumerate(marks):
                for other in marks[at + 1:]:
                    self.assertEqual((mark, other) in at_odds, self.odds_by_spans(history, mark, other))

    def odds_by_spans(self, history, mark, other):
        one, two = span_of(history, mark), span_of(history, other)
        if one is None and two is None:
            return False
        if one is None or two is None:
            span, short = (one, other) if two is None else (two, mark)
            calls = history[1]
            near = min(calls[number][1] for number in kin_of(history, short))
            far = max(calls[number][0] for number in kin_of(history, short))
            return all((span[0] is None or span[0] < moment) and moment < span[1] for moment in (near, far))
        return (one[0] is None or one[0] < two[1]) and (two[0] is None or two[0] < one[1])

    def test_the_cell_has_the_value_throughout_its_sure_span(self):
        chance = random.Random(42)
        looked = 0
        for history in mixed(chance, ("cell",), 5, 3, 250):
            for row in oracle.explanations(history):
                looked += self.look(chance, history, row)
        self.assertGreater(looked, 100)

    def look(self, chance, history, row):
        """Places the calls at numbers by chance, in the turn of the row, and looks between NEAR and FAR."""
        calls = history[1]
        points = oracle.placed(chance, history, row)
        looked = 0
        for mark in marks_of(history):
            span = span_of(history, mark)
            if span is None:
                continue
            looked += 1
            low = -1 if span[0] is None else span[0]
            for step in range(1, 20):
                moment = low + (span[1] - low) * step / 20
                value = None
                for number in row:
                    if points[number] < moment and calls[number][3] == "write":
                        value = calls[number][4]
                self.assertEqual(value, mark, (history, row, points))
        return looked


class TestRefusals(Checks, unittest.TestCase):
    def test_histories(self):
        for function, more in ((marks_of, ()), (kin_of, (True,)), (span_of, (True,)), (is_forced, (True, True)),
                               (odds_in, ())):
            self.refuses_histories(function, *more)
            self.refuses_sorts(function, ("cell",), *more)

    def test_values(self):
        def right(thing):
            return thing is None or (type(thing) is int and thing in (3, 5, 9))
        self.refuses_odd(BadValue, right, kin_of, (SOME,))
        self.refuses_odd(BadValue, right, span_of, (SOME,))
        self.refuses_odd(BadValue, lambda thing: right(thing) and thing != 5, is_forced, (SOME,), (5,))
        self.refuses_odd(BadValue, lambda thing: right(thing) and thing != 3, is_forced, (SOME, 3))
        self.refuses_odd(BadValue, lambda thing: right(thing) and thing is not None, is_forced, (SOME, None))

    def test_none_where_it_is_no_mark(self):
        history = (("cell",), SOME[1][:1])
        for function in (kin_of, span_of):
            self.refuses(BadValue, None, function, history, None)
        self.refuses(BadValue, None, is_forced, history, None, 5)
        self.refuses(BadValue, None, is_forced, history, 5, None)

    def test_true_is_not_one(self):
        history = (("cell",), behind([("write", 1, None), ("write", 0, None)]))
        for value in (True, False):
            self.refuses(BadValue, value, kin_of, history, value)
            self.refuses(BadValue, value, span_of, history, value)
            self.refuses(BadValue, value, is_forced, history, value, 0)
            self.refuses(BadValue, value, is_forced, history, 1, value)

    def test_the_first_one_is_told(self):
        for first in ODD[:4] + ("x",):
            if first is not None:
                self.refuses(BadValue, first, is_forced, SOME, first, "second")
        self.refuses(BadValue, 5, is_forced, SOME, 5, 5)
        self.refuses(BadValue, None, is_forced, SOME, None, None)
        self.refuses(BadValue, 4, is_forced, SOME, 4, 4)

    def test_what_is_told_is_plain(self):
        own = Row((Row(("cell",)), Row((Row((0, 1, 0, "write", Integer(5), None)),))))
        self.tells((5,), marks_of, own)
        self.tells((0,), kin_of, own, Integer(5))


class TestFacts(Checks, unittest.TestCase):
    def test_two_short_ones_are_never_at_odds(self):
        for history in small():
            for mark, other in odds_in(history):
                self.assertFalse(span_of(history, mark) is None and span_of(history, other) is None)

    def test_pairs_stand_in_the_turn_of_marks(self):
        for history in small():
            pairs = odds_in(history)
            marks = marks_of(history)
            places = [(marks.index(mark), marks.index(other)) for mark, other in pairs]
            self.assertEqual(places, sorted(places))
            self.assertTrue(all(one < two for one, two in places))

    def test_a_turn_of_all_is_there_without_odds(self):
        for history in small():
            marks = marks_of(history)
            turns = [turn for turn in permutations(marks)
                     if not any(is_forced(history, far, near) for at, near in enumerate(turn) for far in turn[at + 1:])]
            self.assertEqual(turns != [], odds_in(history) == ())


if __name__ == "__main__":
    unittest.main()
