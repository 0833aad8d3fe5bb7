"""Heads by rank: gaps, stairs and rests: [26], [27], and what is surely in: [28]."""

import random
import unittest
from itertools import combinations

import headfacts
import oracle
import stackfacts
from checks import Checks, alike
from queuefacts import put_of, takes_of
from samples import TOP, Integer, Row, behind, every, matched, mixed, together
from shortbars.errors import BadHistory, BadNumber, BadValue, BadValues
from shortbars.stairs import gaps_of, late_value, rest_of_value, stair_of, stairs_of
from test_spans import LOOSE

EMPTY = (("heads",), ())
WORDS = (("put", 0, None), ("put", 1, None), ("take", None, 0), ("take", None, 1), ("take", None, None))
# 3 is in from the gap of 2 to that of 9; 5 cannot go ahead of it; 8 is kept.
SOME = (("heads",), (
    (0, 4, 0, "put", 3, None), (1, 5, 0, "put", 5, None), (2, 7, 0, "put", 8, None), (8, 11, 0, "take", None, 3),
    (9, 12, 0, "take", None, 5), (13, 14, 0, "take", None, None)))
# 3 is in as long as the take of 5 lasts.
LATE = (("heads",), behind([("put", 3, None), ("put", 5, None), ("take", None, 5), ("put", 7, None), ("take", None, 3),
                            ("take", None, 7)]))


def small():
    for many in (1, 2, 3):
        yield from (history for history in every("heads", WORDS, many) if stackfacts.is_matched(history))
    yield from matched(random.Random(161), "heads", 7, 700)
    yield from (history for history in mixed(random.Random(162), ("heads",), 7, 4, 500) if stackfacts.is_matched(history))


class TestGaps(Checks, unittest.TestCase):
    def test_some(self):
        for sort in ("heads", "stack"):
            history = ((sort,), SOME[1])
            self.tells((0, 1, 2), gaps_of, history, 0)
            self.tells((1, 2, 4), gaps_of, history, 1)
            self.tells((2, 4, 5), gaps_of, history, 2)
            self.tells((8, 9), gaps_of, history, 3)
            self.tells((9, 11), gaps_of, history, 4)
            self.tells((13,), gaps_of, history, 5)

    def test_the_greatest_moment_tells_of_none(self):
        history = (("heads",), ((10, 20, 0, "put", 1, None), (15, 30, 0, "take", None, 1)))
        self.tells((10, 15), gaps_of, history, 0)
        self.tells((15, 20), gaps_of, history, 1)

    def test_ten_calls(self):
        history = (("stack",), together([("put", at, None) for at in range(10)]))
        for number in range(10):
            self.tells(tuple(range(number, 10 + number)), gaps_of, history, number)

    def test_against_the_words(self):
        for history in small():
            for sort in ("heads", "stack"):
                for number, call in enumerate(history[1]):
                    self.tells(headfacts.gaps_of(history, call), gaps_of, ((sort,), history[1]), number)


class TestStairs(Checks, unittest.TestCase):
    def test_no_calls(self):
        self.tells(None, late_value, EMPTY)
        self.tells((), stairs_of, EMPTY, ())

    def test_some(self):
        # The take of 3 has the gaps of 8 and 9, its put those of 0, 1 and 2.
        self.tells((2, 8), stair_of, SOME, 3)
        self.tells((4, 5, 7), rest_of_value, SOME, 3)
        self.tells((4, 9), stair_of, SOME, 5)
        self.tells((5, 7, 8), rest_of_value, SOME, 5)
        self.tells((5, None), stair_of, SOME, 8)
        # A kept value is in to the end, in all gaps behind that of its put.
        self.tells((7, 8, 9, 11, 12, 13), rest_of_value, SOME, 8)
        self.tells(None, late_value, SOME)
        self.tells(((2, 8), (4, 9), (5, None)), stairs_of, SOME, (3, 5, 8))
        self.tells(((2, 8), (5, None)), stairs_of, SOME, (3, 8))
        self.tells(((4, 9),), stairs_of, SOME, (5,))
        self.tells((), stairs_of, SOME, ())

    def test_late(self):
        self.tells(5, late_value, LATE)
        self.tells((0, 8), stair_of, LATE, 3)
        for value in (5, 7):
            self.tells(None, stair_of, LATE, value)
            self.tells((), rest_of_value, LATE, value)
        self.tells(((0, 8),), stairs_of, LATE, (3, 5, 7))
        self.tells(((0, 8),), stairs_of, LATE, (3, 5))
        self.tells(((0, 8), (6, 10)), stairs_of, LATE, (3, 7))
        self.tells(((2, 4), (6, 10)), stairs_of, LATE, (5, 7))

    def test_behind_a_rest(self):
        # The first gap of the take of 5 that is in no rest is the one in which 3 goes.
        history = (("heads",), ((0, 1, 0, "put", 3, None), (2, 3, 0, "put", 5, None), (4, 9, 0, "take", None, 5),
                                (5, 8, 0, "take", None, 3)))
        self.tells((0, 5), stair_of, history, 3)
        self.tells((2, 5), stair_of, history, 5)
        self.tells(((2, 4),), stairs_of, history, (5,))

    def test_no_gap_ahead_of_the_put(self):
        # The take begins ahead of the put: it is no sooner than that.
        history = (("heads",), ((0, 9, 0, "take", None, 3), (2, 5, 0, "put", 3, None), (3, 4, 0, "take", None, None)))
        self.tells((2, 2), stair_of, history, 3)
        self.tells((), rest_of_value, history, 3)

    def test_ten_calls(self):
        history = (("heads",), behind([("put", at, None) for at in range(5)] + [("take", None, at) for at in range(5)]))
        self.tells(None, late_value, history)
        self.tells(tuple((2 * at, 10 + 2 * at) for at in range(5)), stairs_of, history, tuple(range(5)))
        history = (("heads",), behind([("put", at, None) for at in range(5)] + [("take", None, 4 - at) for at in range(5)]))
        self.tells(1, late_value, history)
        kept = (("heads",), together([("put", at, None) for at in range(10)]))
        self.tells(None, late_value, kept)
        self.tells((9 + 9, None), stair_of, kept, 9)
        self.tells((), rest_of_value, kept, 9)

    def test_against_the_words(self):
        late = 0
        for history in small():
            values = headfacts.all_put(history)
            found = headfacts.stairs(history, values)
            self.tells(headfacts.late(history, values), late_value, history)
            late += headfacts.late(history, values) is not None
            for value in values:
                self.tells(None if found[value] == "late" else found[value], stair_of, history, value)
                self.tells(headfacts.rest(history, found[value]), rest_of_value, history, value)
            for many in range(len(values) + 1):
                for some in combinations(values, many):
                    alone = headfacts.stairs(history, some)
                    wanted = tuple(alone[value] for value in some if alone[value] != "late")
                    self.tells(wanted, stairs_of, history, some)
        self.assertGreater(late, 50)

    def test_a_rest_never_has_fewer_gaps_with_more_values(self):
        grew = 0
        for history in small():
            values = headfacts.all_put(history)
            for many in range(len(values)):
                for some in combinations(values, many):
                    for more in values:
                        both = tuple(sorted(some + (more,)))
                        if more in some:
                            continue
                        alone, beside = stairs_of(history, some), stairs_of(history, both)
                        behind_more = dict(zip(both, beside))
                        for value, stair in zip(some, alone):
                            if value in behind_more:
                                one, two = (set(headfacts.rest(history, of)) for of in (stair, behind_more[value]))
                                self.assertTrue(one <= two)
                                grew += one < two
        self.assertGreater(grew, 5)

    def test_in_each_explanation_it_is_in_at_all_of_its_rest(self):
        chance = random.Random(163)
        seen = 0
        for history in small():
            rows = oracle.explanations(history)
            moments = headfacts.moments(history)
            for row in chance.sample(rows, min(5, len(rows))):
                points = oracle.placed(chance, history, row)
                for value in headfacts.all_put(history):
                    rest = rest_of_value(history, value)
                    seen += len(rest)
                    put = points[history[1].index(put_of(history, value))]
                    takes = [points[history[1].index(take)] for take in takes_of(history, value)]
                    for gap in rest:
                        self.assertLess(put, gap)
                        self.assertTrue(all(take > moments[moments.index(gap) + 1] for take in takes))
        self.assertGreater(seen, 500)

    def test_what_is_told_is_plain(self):
        self.tells(((2, 8),), stairs_of, SOME, Row((Integer(3),)))
        self.tells((2, 8), stair_of, SOME, Integer(3))


class TestRefusals(Checks, unittest.TestCase):
    FUNCTIONS = ((stair_of, (None,)), (rest_of_value, (None,)), (late_value, ()), (stairs_of, (None,)))

    def test_histories(self):
        for function, more in self.FUNCTIONS + ((gaps_of, (None,)),):
            self.refuses_histories(function, *more)
            good = ("stack", "heads") if function is gaps_of else ("heads",)
            self.refuses_sorts(function, good, *more)
            for calls in LOOSE:
                for sort in good:
                    self.refuses(BadHistory, "match", function, ((sort,), calls), *more)
                self.refuses(BadHistory, "sort", function, (("queue",), calls), *more)
                self.refuses(BadHistory, "sort", function, (("heads", "heads"), calls), *more)

    def test_numbers(self):
        for sort in ("heads", "stack"):
            for history in (((sort,), SOME[1]), ((sort,), ())):
                def is_right(thing):
                    return type(thing) is int and 0 <= thing < len(history[1])
                self.refuses_odd(BadNumber, is_right, gaps_of, (history,))

    def test_values(self):
        # Those with a put, late, free, kept or not; not one of another take.
        history = (("heads",), behind([("put", 0, None), ("put", 1, None), ("take", None, 1), ("put", 3, None)])
                   + ((20, 23, 0, "put", 9, None), (21, 22, 0, "take", None, 9)))
        for function in (stair_of, rest_of_value):
            self.refuses_odd(BadValue, lambda thing: type(thing) is int and thing in (0, 1, 3, 9), function, (history,))
            self.refuses(BadValue, TOP, function, history, TOP)
            self.refuses(BadValue, 0, function, EMPTY, 0)

    def test_rows_of_values(self):
        rights = [some for many in range(4) for some in combinations((0, 1, 2), many)]
        history = (("heads",), behind([("put", 1, None), ("put", 0, None), ("put", 2, None), ("take", None, 2)]))
        self.refuses_odd(BadValues, lambda thing: any(alike(thing, some) for some in rights), stairs_of, (history,))
        for some in ((3,), (0, 3), (1, 0), (0, 0), [0], (0, True), (0, None), {0: 1}, "", (False,), (-1, 0), (0, 1, 2, 3)):
            self.refuses(BadValues, some, stairs_of, history, some)
        self.refuses_odd(BadValues, lambda thing: alike(thing, ()), stairs_of, (EMPTY,))


if __name__ == "__main__":
    unittest.main()
