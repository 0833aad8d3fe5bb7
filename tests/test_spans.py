"""Stacks and heads: whether they are matched, and their spans: [20]."""

import random
import unittest

import stackfacts
from checks import Checks
from queuefacts import values_put
from samples import TOP, Integer, Row, behind, every, matched, mixed, together
from shortbars.errors import BadHistory, BadValue
from shortbars.spans import all_spans, loose_values, matches, span_of

WORDS = (("put", 0, None), ("put", 1, None), ("take", None, 0), ("take", None, 1), ("take", None, None))
SORTS = ("stack", "heads")
# Histories that are not matched.
LOOSE = (
    behind([("take", None, 5)]), behind([("take", None, 5), ("put", 5, None)]),
    behind([("put", 5, None), ("take", None, 5), ("take", None, 5)]),
    together([("put", 5, None), ("take", None, 5), ("take", None, 5)]),
    behind([("put", 5, None), ("take", None, 5), ("take", None, 6)]),
    ((0, 1, 0, "take", None, 5), (2, 4, 0, "put", 5, None), (3, 5, 0, "take", None, 5)),
)


def small(sort):
    for many in (1, 2, 3):
        yield from every(sort, WORDS, many)
    yield from mixed(random.Random(111), (sort,), 10, 4, 300)
    yield from matched(random.Random(112), sort, 10, 300)


class TestMatches(Checks, unittest.TestCase):
    def test_some(self):
        for sort in SORTS:
            self.tells(True, matches, ((sort,), ()))
            self.tells(True, matches, ((sort,), behind([("take", None, None), ("take", None, None)])))
            self.tells(True, matches, ((sort,), behind([("put", 5, None), ("take", None, None), ("take", None, 5)])))
            self.tells(True, matches, ((sort,), behind([("put", 5, None), ("put", 6, None)])))
            self.tells(True, matches, ((sort,), together([("take", None, 5), ("put", 5, None)])))
            for calls in LOOSE:
                self.tells(False, matches, ((sort,), calls))

    def test_against_the_words(self):
        for sort in SORTS:
            told = set()
            for history in small(sort):
                self.tells(stackfacts.is_matched(history), matches, history)
                told.add(matches(history))
            self.assertEqual(told, {True, False})


class TestSpans(Checks, unittest.TestCase):
    def test_some(self):
        calls = ((0, 5, 0, "put", TOP, None), (1, 2, 0, "put", 0, None), (3, 4, 0, "take", None, TOP),
                 (6, 7, 0, "take", None, 0), (8, 9, 0, "put", 5, None), (10, 11, 0, "take", None, None))
        for sort in SORTS:
            history = ((sort,), calls)
            self.tells((2, 6), span_of, history, 0)
            self.tells((9, None), span_of, history, 5)
            self.refuses(BadValue, TOP, span_of, history, TOP)
            self.tells((0, 5), all_spans, history)
            self.tells((TOP,), loose_values, history)
            self.tells((), all_spans, ((sort,), ()))
            self.tells((), loose_values, ((sort,), ()))

    def test_ten_calls(self):
        for sort in SORTS:
            history = ((sort,), behind([("put", 9 - at, None) for at in range(10)]))
            self.tells(tuple(range(10)), all_spans, history)
            self.tells((), loose_values, history)
            history = ((sort,), together([("put", at, None) for at in range(5)] + [("take", None, at) for at in range(5)]))
            self.tells((), all_spans, history)
            self.tells(tuple(range(5)), loose_values, history)

    def test_against_the_words(self):
        for sort in SORTS:
            loose = 0
            for history in small(sort):
                if not stackfacts.is_matched(history):
                    continue
                values = stackfacts.spanned(history)
                self.tells(tuple(values), all_spans, history)
                free = tuple(value for value in values_put(history) if value not in values)
                self.tells(free, loose_values, history)
                loose += len(free)
                for value in values:
                    self.tells(stackfacts.span(history, value), span_of, history, value)
                for value in free:
                    self.refuses(BadValue, value, span_of, history, value)
            self.assertGreater(loose, 50)

    def test_what_is_told_is_plain(self):
        own = Row((Row(("stack",)), Row((Row((0, Integer(1), 0, "put", Integer(5), None)),
                                         Row((2, 3, 0, "take", None, None))))))
        self.tells((5,), all_spans, own)
        self.tells((1, None), span_of, own, Integer(5))


class TestRefusals(Checks, unittest.TestCase):
    def test_histories(self):
        for function, more in ((matches, ()), (span_of, (True,)), (all_spans, ()), (loose_values, ())):
            self.refuses_histories(function, *more)
            self.refuses_sorts(function, SORTS, *more)

    def test_what_is_not_matched(self):
        for sort in SORTS:
            for calls in LOOSE:
                self.refuses(BadHistory, "match", all_spans, ((sort,), calls))
                self.refuses(BadHistory, "match", loose_values, ((sort,), calls))
                for value in (5, None, True):
                    self.refuses(BadHistory, "match", span_of, ((sort,), calls), value)
                self.refuses(BadHistory, "sort", all_spans, ((sort, sort), calls))
                self.refuses(BadHistory, "sort", all_spans, (("queue",), calls))

    def test_values(self):
        calls = ((0, 1, 0, "put", 1, None), (2, 5, 0, "put", 2, None), (3, 4, 0, "take", None, 2),
                 (6, 7, 0, "put", 3, None), (8, 9, 0, "take", None, 3), (10, 11, 0, "take", None, None))
        for sort in SORTS:
            self.refuses_odd(BadValue, lambda thing: type(thing) is int and thing in (1, 3), span_of, (((sort,), calls),))


if __name__ == "__main__":
    unittest.main()
