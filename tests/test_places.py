"""Explanations by number, how many there are, and the places of calls: [47], [51]."""

import random
import unittest

import oracle
import webfacts
from checks import Checks
from samples import ALL_SORTS, Integer, behind, together
from shortbars.cellturns import cell_count
from shortbars.errors import BadNumber, BadTurn, TooMany
from shortbars.places import explanation_at, how_many, places_of
from shortbars.search import first_explanation
from shortbars.standings import count_from, is_live

SOME = (("stack",), together([("put", 5, None), ("put", 6, None), ("take", None, 5)]))
BARRED = (("stack",), behind([("put", 5, None), ("put", 6, None), ("take", None, 5)]))
PUTS = [("put", at, None) for at in range(10)]
EIGHT = (("heads",), together(PUTS[:8]))


class TestPlaces(Checks, unittest.TestCase):
    def test_some(self):
        # 5 is taken at once, ahead of 6 or on top of it.
        self.tells(2, how_many, SOME)
        self.tells((0, 2, 1), explanation_at, SOME, 0)
        self.tells((1, 0, 2), explanation_at, SOME, 1)
        self.tells((0, 1), places_of, SOME, 0)
        self.tells((0, 2), places_of, SOME, 1)
        self.tells((1, 2), places_of, SOME, Integer(2))
        self.tells((1, 0, 2), explanation_at, SOME, Integer(1))

    def test_one_that_is_not_explained(self):
        self.tells(0, how_many, BARRED)
        for number in range(3):
            self.tells((), places_of, BARRED, number)
        for turn in (0, 1, -1, None):
            self.refuses(BadTurn, turn, explanation_at, BARRED, turn)

    def test_no_calls(self):
        for sort in ALL_SORTS:
            self.tells(1, how_many, ((sort,), ()))
            self.tells((), explanation_at, ((sort,), ()), 0)
            self.refuses(BadTurn, 1, explanation_at, ((sort,), ()), 1)
            self.refuses(BadNumber, 0, places_of, ((sort,), ()), 0)

    def test_by_going_through_all_explanations(self):
        seen = set()
        for history in webfacts.small(480, 14):
            rows = oracle.explanations(history)
            self.tells(len(rows), how_many, history)
            for turn in list(range(len(rows)))[:150] + [max(len(rows) - 1, 0)]:
                if rows:
                    self.tells(rows[turn], explanation_at, history, turn)
            self.refuses(BadTurn, len(rows), explanation_at, history, len(rows))
            for number in range(len(history[1])):
                wanted = tuple(sorted({row.index(number) for row in rows}))
                self.tells(wanted, places_of, history, number)
                seen.add((history[0], min(len(wanted), 2)))
        self.assertEqual(len({sorts for sorts, many in seen if many == 0}), len({sorts for sorts, _ in seen}))
        self.assertGreater(len(seen), 2.5 * len({sorts for sorts, _ in seen}))

    def test_other_parts_tell_the_same(self):
        for history in webfacts.small(500, 6):
            many = how_many(history)
            first = ((), oracle.run(history, ())[1])
            self.assertEqual(is_live(history, first), many > 0)
            if many:
                self.assertEqual(count_from(history, first), many)
                self.assertEqual(explanation_at(history, 0), first_explanation(history))
            if history[0] == ("cell",):
                self.assertEqual(cell_count(history), many)

    def test_seven_calls(self):
        chance = random.Random(510)
        history = (("queue",), together(PUTS[:7]))
        self.tells(5040, how_many, history)
        self.tells((0, 1, 2, 3, 4, 5, 6), places_of, history, 3)
        rows = oracle.explanations(history)
        for turn in [0, 1, 719, 720, 5039] + [chance.randrange(5040) for _ in range(20)]:
            self.tells(rows[turn], explanation_at, history, turn)
        self.refuses(BadTurn, 5040, explanation_at, history, 5040)
        history = (("queue",), behind(PUTS[:7]))
        self.tells(1, how_many, history)
        for number in range(7):
            self.tells((number,), places_of, history, number)

    def test_eight_calls(self):
        for history in (EIGHT, (("queue",), behind(PUTS)), (("cell", "heads"), tuple(call[:2] + (1,) + call[3:] for call in EIGHT[1]))):
            self.refuses(TooMany, 7, how_many, history)
            self.refuses(TooMany, 7, places_of, history, 0)
            for turn in (0, -1, None, "x"):
                self.refuses(TooMany, 7, explanation_at, history, turn)
            for number in (-1, 10, None, True):
                self.refuses(BadNumber, number, places_of, history, number)

    def test_refusals(self):
        for function, more in ((places_of, (None,)), (how_many, ()), (explanation_at, (None,))):
            self.refuses_histories(function, *more)
        self.refuses_odd(BadNumber, lambda thing: type(thing) is int and 0 <= thing < 3, places_of, (SOME,))
        many = how_many(SOME)
        self.refuses_odd(BadTurn, lambda thing: type(thing) is int and 0 <= thing < many, explanation_at, (SOME,))


if __name__ == "__main__":
    unittest.main()
