"""Turns of cells, how many explanations there are, and tight ones: [13], [14]."""

import random
import unittest
from itertools import permutations

import cellfacts
import oracle
from checks import Checks, alike
from samples import ODD, behind, every, mixed, together
from shortbars.cells import is_forced, kin_of, odds_in
from shortbars.cellturns import all_turns, cell_count, is_tight, order_by
from shortbars.errors import BadTurn
from shortbars.runs import is_explanation

EMPTY = (("cell",), ())
WORDS = (("write", 0, None), ("write", 1, None), ("read", None, 0), ("read", None, 1), ("read", None, None))


def small():
    for many in (1, 2, 3):
        yield from every("cell", WORDS, many)
    yield from mixed(random.Random(61), ("cell",), 6, 4, 500)


class TestTurns(Checks, unittest.TestCase):
    def test_no_calls(self):
        self.tells(((),), all_turns, EMPTY)
        self.tells((), order_by, EMPTY, ())
        self.tells(1, cell_count, EMPTY)
        self.tells(True, is_tight, EMPTY)

    def test_some(self):
        calls = together([("write", 7, None), ("read", None, None), ("write", 5, None), ("read", None, 7)])
        history = (("cell",), calls)
        self.tells(((None, 5, 7), (None, 7, 5)), all_turns, history)
        self.tells((1, 2, 0, 3), order_by, history, (None, 5, 7))
        self.tells((1, 0, 3, 2), order_by, history, (None, 7, 5))
        self.tells(2, cell_count, history)
        self.tells(False, is_tight, history)

    def test_the_reads_stand_by_their_numbers(self):
        history = (("cell",), together([("read", None, 4), ("read", None, 4), ("write", 4, None), ("read", None, 4)]))
        self.tells(((4,),), all_turns, history)
        self.tells((2, 0, 1, 3), order_by, history, (4,))
        self.tells(6, cell_count, history)
        self.tells(True, is_tight, history)
        history = (("cell",), together([("read", None, None), ("read", None, None)]))
        self.tells((0, 1), order_by, history, (None,))
        self.tells(2, cell_count, history)

    def test_reads_that_are_ahead(self):
        calls = ((0, 1, 0, "write", 4, None), (2, 5, 0, "read", None, 4), (3, 4, 0, "read", None, 4),
                 (6, 7, 0, "read", None, 4))
        self.tells(2, cell_count, (("cell",), calls))
        self.tells((0, 1, 2, 3), order_by, (("cell",), calls), (4,))

    def test_one_that_is_not_explained(self):
        unwritten = (("cell",), behind([("read", None, 5)]))
        self.tells(((5,),), all_turns, unwritten)
        early = (("cell",), behind([("read", None, 5), ("write", 5, None)]))
        self.tells(((5,),), all_turns, early)
        for history in (unwritten, early):
            self.tells(0, cell_count, history)
            self.tells(True, is_tight, history)
            self.refuses(BadTurn, (5,), order_by, history, (5,))
        odds = (("cell",), behind([("write", 5, None), ("write", 6, None), ("read", None, 5)]))
        self.tells((), all_turns, odds)
        self.tells(0, cell_count, odds)
        self.tells(True, is_tight, odds)
        for turn in ((5, 6), (6, 5), ()):
            self.refuses(BadTurn, turn, order_by, odds, turn)
        unwritten = (("cell",), together([("read", None, 5), ("write", 6, None)]))
        self.tells(((5, 6), (6, 5)), all_turns, unwritten)
        self.tells(True, is_tight, unwritten)

    def test_ten_calls(self):
        writes = [("write", at, None) for at in range(10)]
        history = (("cell",), together(writes))
        self.tells(3628800, cell_count, history)
        self.tells(False, is_tight, history)
        self.tells(tuple(range(10)), order_by, history, tuple(range(10)))
        self.tells((tuple(range(10)),), all_turns, (("cell",), behind(writes)))
        history = (("cell",), together(writes[:5] + [("read", None, at) for at in range(5)]))
        self.tells(120, cell_count, history)
        self.tells(tuple(permutations(range(5))), all_turns, history)
        history = (("cell",), together([("write", 3, None)] + [("read", None, 3)] * 9))
        self.tells(362880, cell_count, history)
        self.tells(True, is_tight, history)

    def test_seven_writes(self):
        history = (("cell",), together([("write", 9 - at, None) for at in range(7)]))
        self.tells(tuple(permutations(range(3, 10))), all_turns, history)


class TestAgainstTheWords(Checks, unittest.TestCase):
    def test_turns(self):
        for history in small():
            turns = cellfacts.turns(history)
            self.tells(turns, all_turns, history)
            self.assertEqual(turns != (), odds_in(history) == ())

    def test_explanations(self):
        tight = set()
        for history in small():
            rows = oracle.explanations(history)
            self.tells(len(rows), cell_count, history)
            turns = {cellfacts.turn_of(history, row) for row in rows}
            self.tells(len(turns) <= 1, is_tight, history)
            tight.add((rows != [], len(turns) <= 1))
            if rows:
                self.assertEqual(turns, set(all_turns(history)))
        self.assertEqual(tight, {(True, True), (True, False), (False, True)})

    def test_the_order_of_each_turn(self):
        for history in small():
            explained = oracle.explanations(history) != []
            turns = cellfacts.turns(history)
            for turn in permutations(cellfacts.kins(history)):
                if not explained or turn not in turns:
                    self.refuses(BadTurn, turn, order_by, history, turn)
                    continue
                wanted = []
                for mark in turn:
                    wanted += sorted(kin_of(history, mark), key=lambda at: (history[1][at][3] == "read", at))
                self.tells(tuple(wanted), order_by, history, turn)
                self.assertTrue(is_explanation(history, tuple(wanted)))

    def test_tight_ones_by_neighbours(self):
        for history in small():
            turns = all_turns(history)
            if cell_count(history):
                for turn in turns:
                    forced = [is_forced(history, one, two) for one, two in zip(turn, turn[1:])]
                    self.assertEqual(is_tight(history), all(forced))


class TestRefusals(Checks, unittest.TestCase):
    SOME = (("cell",), ((0, 1, 0, "read", None, None), (2, 4, 0, "write", 0, None), (3, 5, 0, "write", 1, None)))

    def test_histories(self):
        for function, more in ((all_turns, ()), (cell_count, ()), (is_tight, ()), (order_by, (None,))):
            self.refuses_histories(function, *more)
            self.refuses_sorts(function, ("cell",), *more)

    def test_turns(self):
        rights = ((None, 0, 1), (None, 1, 0))
        self.refuses_odd(BadTurn, lambda thing: any(alike(thing, turn) for turn in rights), order_by, (self.SOME,))
        for turn in ((0, 1, None), (None, 0), (None, 0, 1, 1), (None, 0, 0), [None, 0, 1], (None, False, True), (0, 1),
                     (None, 0, 2), (None, None, 0), (None, 0, "1"), (None, 0, (1,)), (None, 0, []), ()):
            self.refuses(BadTurn, turn, order_by, self.SOME, turn)
        for turn in rights:
            order_by(self.SOME, turn)
        for thing in ODD:
            if not alike(thing, 1):
                self.refuses(BadTurn, (None, 0, thing), order_by, self.SOME, (None, 0, thing))
            if thing is not None:
                self.refuses(BadTurn, (thing, 0, 1), order_by, self.SOME, (thing, 0, 1))
            if not alike(thing, ()):
                self.refuses(BadTurn, thing, order_by, EMPTY, thing)


if __name__ == "__main__":
    unittest.main()
