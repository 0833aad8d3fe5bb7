"""Whether a history is explained, and its least explanation: [4], [5], [6]."""

import random
import unittest

import oracle
from checks import Checks
from samples import ALL_SORTS, behind, every, mixed, together
from shortbars.errors import BadHistory, TooMany
from shortbars.search import first_explanation, is_explained

SORTS = ("cell", "queue", "stack", "heads", "counter", "tickets", "set", ("room", 1), ("room", 2), ("room", 9))


class TestSearch(Checks, unittest.TestCase):
    def compare(self, history):
        wanted = oracle.explanations(history)
        self.tells(wanted != [], is_explained, history)
        self.tells(wanted[0] if wanted else None, first_explanation, history)
        return wanted != []

    def test_no_calls(self):
        for sort in ALL_SORTS:
            self.tells(True, is_explained, ((sort,), ()))
            self.tells((), first_explanation, ((sort,), ()))
        self.tells((), first_explanation, (("set",) * 4, ()))

    def test_some(self):
        history = (("cell",), ((0, 3, 0, "write", 5, None), (1, 2, 0, "read", None, None)))
        self.tells((1, 0), first_explanation, history)
        history = (("cell",), ((0, 1, 0, "write", 5, None), (2, 3, 0, "read", None, None)))
        self.tells(None, first_explanation, history)
        self.tells(False, is_explained, history)
        history = (("stack",), together([("put", 5, None), ("put", 6, None), ("take", None, 5)]))
        self.tells((0, 2, 1), first_explanation, history)

    def test_each_sort_by_chance(self):
        chance = random.Random(21)
        for sort in SORTS:
            told = [self.compare(history) for history in mixed(chance, (sort,), 6, 3, 150)]
            self.assertTrue(True in told and False in told, sort)

    def test_several_things_by_chance(self):
        chance = random.Random(22)
        for _ in range(40):
            sorts = tuple(chance.choice(SORTS) for _ in range(chance.randrange(2, 5)))
            for history in mixed(chance, sorts, 7, 3, 6):
                self.compare(history)

    def test_all_small_ones_of_a_queue(self):
        words = (("put", 0, None), ("put", 1, None), ("take", None, 0), ("take", None, 1), ("take", None, None))
        for many in (1, 2, 3):
            for history in every("queue", words, many):
                self.compare(history)

    def test_seven_calls_and_eight(self):
        seven = together([("put", at, None) for at in range(7)])
        eight = together([("put", at, None) for at in range(8)])
        ten = behind([("put", at, None) for at in range(10)])
        for sort in ("queue", "stack", "heads"):
            self.tells(tuple(range(7)), first_explanation, ((sort,), seven))
            self.tells(True, is_explained, ((sort,), seven))
            for calls in (eight, ten):
                self.refuses(TooMany, 7, first_explanation, ((sort,), calls))
                self.refuses(TooMany, 7, is_explained, ((sort,), calls))
        hard = together([("put", at, None) for at in range(5)] + [("take", None, 4), ("take", None, 3)])
        self.tells((3, 4, 0, 1, 2, 6, 5), first_explanation, (("queue",), hard))

    def test_what_is_refused(self):
        eleven = behind([("put", at, None) for at in range(11)])
        for function in (is_explained, first_explanation):
            self.refuses_histories(function)
            self.refuses(BadHistory, "calls", function, (("queue",), eleven))
            twice = behind([("put", 1, None)] * 9)
            self.refuses(BadHistory, "twice", function, (("queue",), twice))


if __name__ == "__main__":
    unittest.main()
