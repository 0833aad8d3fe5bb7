"""Rows of queues: [16], [19]."""

import random
import unittest
from itertools import permutations

import oracle
import queuefacts
from checks import Checks, alike
from samples import ODD, behind, every, matched, mixed, together
from shortbars.errors import BadHistory, BadRow
from shortbars.linerows import all_rows, order_of_row
from shortbars.lines import cover_of, out_of_turn
from shortbars.runs import is_explanation

EMPTY = (("queue",), ())
WORDS = (("put", 0, None), ("put", 1, None), ("take", None, 0), ("take", None, 1), ("take", None, None))


def small():
    for many in (1, 2, 3):
        yield from every("queue", WORDS, many)
    yield from list(every("queue", WORDS, 4))[::31]
    yield from mixed(random.Random(101), ("queue",), 7, 4, 1200)
    yield from matched(random.Random(102), "queue", 7, 1500)


class TestRows(Checks, unittest.TestCase):
    def test_no_calls(self):
        self.tells(((),), all_rows, EMPTY)
        self.tells((), order_of_row, EMPTY, ())

    def test_some(self):
        history = (("queue",), together([("put", 7, None), ("put", 5, None), ("put", 6, None)]))
        self.tells(tuple(permutations((5, 6, 7))), all_rows, history)
        for row in permutations((5, 6, 7)):
            self.tells(tuple({7: 0, 5: 1, 6: 2}[value] for value in row), order_of_row, history, row)
        history = (("queue",), together([("put", 7, None), ("put", 5, None), ("put", 6, None)],
                                        (10, 11, 0, "take", None, 6)))
        self.tells(((6, 5, 7), (6, 7, 5)), all_rows, history)

    def test_what_is_before(self):
        # Put ahead; taken ahead; taken ahead of the put; taken, and the other one never.
        for calls in (behind([("put", 6, None), ("put", 5, None)]),
                      together([("put", 6, None), ("put", 5, None)], (10, 11, 0, "take", None, 6),
                               (12, 13, 0, "take", None, 5)),
                      ((0, 3, 0, "put", 6, None), (1, 2, 0, "take", None, 6), (4, 5, 0, "put", 5, None)),
                      ((0, 9, 0, "put", 6, None), (1, 2, 0, "take", None, 6), (3, 8, 0, "put", 5, None),
                       (4, 7, 0, "take", None, 5)),
                      together([("put", 5, None), ("put", 6, None), ("take", None, 6)])):
            self.tells(((6, 5),), all_rows, (("queue",), calls))
            self.refuses(BadRow, (5, 6), order_of_row, (("queue",), calls), (5, 6))
            self.assertTrue(is_explanation((("queue",), calls), order_of_row((("queue",), calls), (6, 5))))

    def test_out_of_turn(self):
        calls = behind([("put", 6, None), ("put", 5, None), ("take", None, 5)])
        self.tells((), all_rows, (("queue",), calls))
        for row in ((5, 6), (6, 5), ()):
            self.refuses(BadRow, row, order_of_row, (("queue",), calls), row)

    def test_ten_calls(self):
        puts = [("put", at, None) for at in range(10)]
        takes = [("take", None, at) for at in range(5)]
        self.tells((tuple(range(10)),), all_rows, (("queue",), behind(puts)))
        self.tells((tuple(range(5)),), all_rows, (("queue",), behind(puts[:5] + takes)))
        history = (("queue",), together(puts[:5] + takes))
        self.tells(tuple(permutations(range(5))), all_rows, history)
        for row in permutations(range(5)):
            self.assertTrue(is_explanation(history, order_of_row(history, row)))
        history = (("queue",), together(puts))
        self.tells((9, 8, 7, 6, 5, 4, 3, 2, 1, 0), order_of_row, history, (9, 8, 7, 6, 5, 4, 3, 2, 1, 0))


class TestAgainstTheWords(Checks, unittest.TestCase):
    def test_rows_are_the_turns_of_explanations(self):
        several = 0
        for history in small():
            if not queuefacts.has_rows(history):
                self.refuses(BadHistory, "rows", all_rows, history)
                self.refuses(BadHistory, "rows", order_of_row, history, None)
                continue
            rows = queuefacts.rows(history)
            self.tells(rows, all_rows, history)
            several += len(rows) > 1
            self.assertEqual(rows == (), out_of_turn(history) != ())
            calls = history[1]
            turns = {tuple(calls[at][4] for at in row if calls[at][3] == "put") for row in oracle.explanations(history)}
            self.assertEqual(set(rows), turns)
            for row in permutations(queuefacts.values_put(history)):
                if row not in rows:
                    self.refuses(BadRow, row, order_of_row, history, row)
                    continue
                order = order_of_row(history, row)
                self.assertIn(order, oracle.explanations(history))
                self.assertEqual(tuple(calls[at][4] for at in order if calls[at][3] == "put"), row)
        self.assertGreater(several, 50)

    def test_empty_answers_hang_on_covers_alone(self):
        for history in small():
            empties = [at for at, call in enumerate(history[1]) if call[3] == "take" and call[5] is None]
            rest = (history[0], tuple(call for at, call in enumerate(history[1]) if at not in empties))
            if empties and queuefacts.has_rows(rest):
                covered = any(cover_of(history, number) is not None for number in empties)
                self.assertEqual(oracle.explanations(history) != [], all_rows(rest) != () and not covered)


class TestRefusals(Checks, unittest.TestCase):
    def test_histories(self):
        for function, more in ((all_rows, ()), (order_of_row, (None,))):
            self.refuses_histories(function, *more)
            self.refuses_sorts(function, ("queue",), *more)

    def test_what_rows_are_told_of(self):
        for row in ([("take", None, None)], [("take", None, 5)], [("take", None, 5), ("put", 5, None)],
                    [("put", 5, None), ("take", None, 5), ("take", None, 5)], [("put", 5, None), ("take", None, None)]):
            history = (("queue",), behind(row))
            self.refuses(BadHistory, "rows", all_rows, history)
            for thing in (None, (), (5,)):
                self.refuses(BadHistory, "rows", order_of_row, history, thing)
        history = (("queue",), together([("take", None, 5), ("put", 5, None)]))
        self.tells(((5,),), all_rows, history)
        self.tells((1, 0), order_of_row, history, (5,))

    def test_rows(self):
        history = (("queue",), together([("put", 0, None), ("put", 1, None)]))
        self.refuses_odd(BadRow, lambda thing: alike(thing, (0, 1)) or alike(thing, (1, 0)), order_of_row, (history,))
        self.refuses_odd(BadRow, lambda thing: alike(thing, ()), order_of_row, (EMPTY,))
        for row in ((0,), (0, 0), (0, 1, 1), [0, 1], (0, True), (False, True), (0, 2), (0, 1, 2), (0, None), (0, "1")):
            self.refuses(BadRow, row, order_of_row, history, row)
        for thing in ODD:
            if not alike(thing, 1):
                self.refuses(BadRow, (0, thing), order_of_row, history, (0, thing))


if __name__ == "__main__":
    unittest.main()
