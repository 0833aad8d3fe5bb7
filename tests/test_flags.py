"""Sets: when values are in, and papers: [40], [41]."""

import random
import unittest
from itertools import product

import flagfacts
import oracle
from checks import Checks
from paperchecks import PaperChecks, is_explanation
from samples import TOP, Integer, behind, every, grown, mixed, spoiled, together
from shortbars.calls import calls_of_lot
from shortbars.errors import BadValue
from shortbars.flags import check_flags, fleeting_values, flag_paper, in_and_out

EMPTY = (("set",), ())
WORDS = (("join", 0, None), ("drop", 0, None), ("has", 0, 1), ("has", 0, 0))
MORE = WORDS + (("join", 1, None), ("drop", 1, None), ("has", 1, 1), ("has", 1, 0))
# 5 is in from 3 to 10; 6 never goes; 7 is fleeting; of 8 there is no join, 9 never joins and was never found.
SOME = (("set",), (
    (0, 4, 0, "join", 5, None), (1, 3, 0, "has", 5, 1), (2, 6, 0, "join", 6, None), (5, 12, 0, "has", 5, 0),
    (7, 14, 0, "join", 7, None), (8, 15, 0, "drop", 7, None), (9, 17, 0, "drop", 5, None), (10, 16, 0, "has", 5, 1),
    (11, 13, 0, "has", 9, 0), (18, 19, 0, "has", 8, 1)))


def tangled(chance, many, most, width):
    """An explained history of a few values, long calls, some told the wrong thing."""
    history = grown(chance, ("set",), many, most, width)
    return history if chance.randrange(3) else spoiled(chance, history)


def small():
    for many in (0, 1, 2, 3):
        yield from every("set", WORDS, many)
    yield from list(every("set", WORDS, 4))[::5]
    yield from list(every("set", MORE, 3))[::3]
    yield from mixed(random.Random(241), ("set",), 7, 2, 600)
    chance = random.Random(242)
    yield from (tangled(chance, 7, chance.choice((1, 2)), chance.choice((9, 25, 60))) for _ in range(900))


def tens():
    yield from mixed(random.Random(243), ("set",), 10, 3, 300)
    chance = random.Random(244)
    for _ in range(600):
        sorts, calls = tangled(chance, 12, chance.choice((2, 3)), chance.choice((9, 25, 60)))
        yield sorts, calls[:10]


class TestInAndOut(Checks, unittest.TestCase):
    def test_some(self):
        self.tells((3, 10), in_and_out, SOME, 5)
        self.tells((6, None), in_and_out, SOME, 6)
        self.tells((14, 8), in_and_out, SOME, 7)
        self.tells((7,), fleeting_values, SOME)
        self.tells((3, 10), in_and_out, SOME, Integer(5))
        self.tells((), fleeting_values, EMPTY)

    def test_a_value_that_never_drops(self):
        # What was found has an end that counts, but no begin that does.
        history = (("set",), ((0, 9, 0, "join", 1, None), (1, 2, 0, "has", 1, 1), (20, 21, 0, "has", 1, 1)))
        self.tells((2, None), in_and_out, history, 1)
        self.tells((), fleeting_values, history)

    def test_what_told_0_makes_no_difference(self):
        history = (("set",), ((0, 4, 0, "join", 1, None), (1, 2, 0, "has", 1, 0), (5, 8, 0, "drop", 1, None),
                              (6, 7, 0, "has", 1, 0)))
        self.tells((4, 5), in_and_out, history, 1)
        # The end of a drop counts as well.
        history = (("set",), ((0, 9, 0, "join", 1, None), (1, 3, 0, "drop", 1, None), (2, 8, 0, "has", 1, 1)))
        self.tells((3, 2), in_and_out, history, 1)
        self.tells((1,), fleeting_values, history)

    def test_against_the_words(self):
        told = set()
        for history in small():
            found = tuple(value for value in flagfacts.joined(history) if flagfacts.is_fleeting(history, value))
            self.tells(found, fleeting_values, history)
            for value in flagfacts.joined(history):
                self.tells(flagfacts.in_and_out(history, value), in_and_out, history, value)
                told.add((value in found, flagfacts.in_and_out(history, value)[1] is None))
        self.assertEqual(len(told), 3)

    def test_what_is_surely_in(self):
        chance = random.Random(245)
        seen = 0
        for history in list(small())[::5]:
            rows = oracle.explanations(history)
            for row in chance.sample(rows, min(4, len(rows))):
                points = oracle.placed(chance, history, row)
                at = {(call[3], call[4]): points[number] for number, call in enumerate(history[1])}
                for value in flagfacts.joined(history):
                    if value not in fleeting_values(history):
                        inside, out = in_and_out(history, value)
                        self.assertLessEqual(at["join", value], inside)
                        self.assertTrue(("drop", value) not in at or at["drop", value] >= out)
                        seen += 1
        self.assertGreater(seen, 500)

    def test_refusals(self):
        for function, more in ((in_and_out, (None,)), (fleeting_values, ())):
            self.refuses_histories(function, *more)
            self.refuses_sorts(function, ("set",), *more)
        self.refuses_odd(BadValue, lambda thing: False, in_and_out, (SOME,))
        history = (("set",), behind([("join", 1, None), ("drop", 2, None), ("has", 3, 1), ("join", 0, None), ("has", 9, 0)]))
        self.refuses_odd(BadValue, lambda thing: type(thing) is int and thing in (0, 1), in_and_out, (history,))
        for value in (8, 9, TOP, 5.0 == 5, "5", (5,)):
            self.refuses(BadValue, value, in_and_out, SOME, value)


class TestPapers(PaperChecks, unittest.TestCase):
    tell = staticmethod(flag_paper)
    check = staticmethod(check_flags)
    SORT = "set"
    SIZES = {"order": 2, "strange": 2, "turn": 3, "shut": 4}
    ONE = (0, 1, 0, "join", 1, None)
    SHUT = behind([("join", 5, None), ("has", 5, 1), ("has", 5, 0), ("has", 5, 1), ("drop", 5, None), ("has", 6, 0),
                   ("has", 5, 0)])
    OPEN = behind([("join", 5, None), ("has", 5, 1), ("has", 5, 0), ("has", 5, 1), ("has", 6, 0)])
    GOODS = (
        (together([("has", 5, 1), ("join", 5, None), ("has", 5, 0)]), ("order", (2, 1, 0)),
         [("order", (0, 1, 2)), ("order", (1, 0, 2)), ("order", [2, 1, 0]), ("order", (2, 1)), ("order", None),
          ("strange", 0), ("strange", 2), ("turn", 0, 1), ("shut", 2, 1, None), ("shut", 2, 0, None)]),
        (behind([("join", 5, None), ("drop", 6, None), ("has", 6, 1), ("has", 6, 0), ("drop", 5, None)]), ("strange", 1),
         [("strange", 0), ("strange", 3), ("strange", 4), ("strange", 5), ("strange", -1), ("strange", True),
          ("strange", None), ("strange", 6), ("turn", 1, 3), ("shut", 3, 2, None)]),
        (behind([("join", 5, None), ("drop", 6, None), ("has", 6, 1)]), ("strange", 2), []),
        # A drop ahead of what found it holds, whether there is a join or not.
        (behind([("join", 5, None), ("drop", 6, None), ("has", 6, 1)]), ("turn", 1, 2), [("turn", 2, 1), ("turn", 0, 2)]),
        (behind([("drop", 5, None), ("has", 5, 1), ("has", 5, 0), ("join", 5, None)]), ("turn", 0, 3),
         [("turn", 3, 0), ("turn", 0, 0), ("turn", 2, 3), ("turn", 0, 2), ("turn", 0, 4), ("turn", False, 3),
          ("turn", 0, None), ("turn", 1, 2), ("strange", 0), ("shut", 2, 1, 3)]),
        (behind([("drop", 5, None), ("has", 5, 1), ("has", 5, 0), ("join", 5, None)]), ("turn", 1, 3), []),
        (behind([("drop", 5, None), ("has", 5, 1), ("has", 5, 0), ("join", 5, None)]), ("turn", 0, 1), [("turn", 1, 0)]),
        (((0, 2, 0, "has", 5, 1), (1, 5, 0, "join", 5, None), (3, 4, 0, "join", 6, None), (6, 7, 0, "has", 6, 0)),
         ("shut", 3, 2, None), [("turn", 0, 1), ("turn", 0, 2), ("shut", 3, 1, None), ("shut", 3, 2, 2)]),
        (SHUT, ("shut", 2, 1, 3),
         [("shut", 2, 1, None), ("shut", 2, 3, 1), ("shut", 2, 1, 1), ("shut", 2, 3, 4), ("shut", 6, 1, 4),
          ("shut", 6, 1, None), ("shut", 1, 0, 3), ("shut", 5, 0, None), ("shut", 5, 1, 4), ("shut", 2, 2, 3),
          ("shut", 2, 1, 2), ("shut", 2, True, 3), ("shut", 2, 1, 6), ("shut", 2, 1, 7), ("shut", None, 1, 3),
          ("shut", 2, None, 3), ("shut", 2, 4, 3), ("turn", 2, 4), ("turn", 0, 1)]),
        (SHUT, ("shut", 2, 0, 4), []), (SHUT, ("shut", 2, 1, 4), []), (SHUT, ("shut", 2, 0, 3), []),
        (OPEN, ("shut", 2, 1, None),
         [("shut", 2, 3, None), ("shut", 4, 0, None), ("shut", 2, 2, None), ("shut", 1, 0, None), ("shut", 2, 1, True),
          ("shut", 2, 1, 1), ("shut", 2, 1, 5)]),
        # What found it later is not named where there is no drop.
        (OPEN, ("shut", 2, 0, None), [("shut", 2, 0, 3), ("shut", 2, 1, 3), ("shut", 2, 0, 4)]),
        # The drop of another value is none of this one.
        (behind([("join", 5, None), ("has", 5, 0), ("has", 5, 1), ("join", 8, None), ("drop", 8, None)]),
         ("shut", 1, 0, None), [("shut", 1, 0, 2), ("shut", 1, 0, 4)]),
        # Without a join nothing is shut.
        (behind([("has", 5, 1), ("has", 5, 0), ("has", 5, 1)]), ("strange", 0),
         [("shut", 1, 0, None), ("shut", 1, 0, 2), ("strange", 1), ("turn", 0, 1)]),
        # A fleeting value may be told 0 ahead of all or behind.
        (together([("join", 5, None), ("drop", 5, None), ("has", 5, 1)], (6, 7, 0, "has", 5, 0)), ("order", (0, 2, 1, 3)),
         [("shut", 3, 0, 1), ("shut", 3, 2, 1), ("shut", 3, 0, None)]),
    )

    def holds(self, history, paper):
        if paper[0] == "order":
            return is_explanation(history, paper[1])
        return flagfacts.holds(history, paper)

    def small(self):
        return small()

    def tens(self):
        return tens()

    def few(self):
        yield from (((self.SORT,), calls) for calls, _, _ in self.GOODS)
        yield from list(every("set", WORDS, 3))[::3]
        yield from list(every("set", MORE, 3))[::19]
        chance = random.Random(246)
        yield from (tangled(chance, 6, 2, chance.choice((9, 25, 60))) for _ in range(150))

    def papers(self, history):
        numbers = range(len(history[1]) + 1)
        yield from (("order", row) for row in oracle.orders(history)[:200])
        yield from (("strange", number) for number in numbers)
        yield from (("turn", one, two) for one, two in product(numbers, repeat=2))
        yield from (("shut", one, two, last) for one, two in product(numbers, repeat=2) for last in (None,) + tuple(numbers))

    def lot(self, history, paper):
        return flagfacts.lot(history, paper)


class TestTheFacts(Checks, unittest.TestCase):
    def test_nothing_is_wanting(self):
        told = set()
        for history in small():
            wanted = flagfacts.is_good(history)
            self.assertEqual(flag_paper(history)[0] == "order", wanted, history)
            told.add(wanted)
        self.assertEqual(told, {True, False})

    def test_each_value_alone(self):
        told = set()
        for history in list(small())[::2]:
            values = sorted({call[4] for call in history[1]})
            lots = [tuple(number for number, call in enumerate(history[1]) if call[4] == value) for value in values]
            each = all(oracle.explanations(calls_of_lot(history, lot)) for lot in lots)
            self.assertEqual(flag_paper(history)[0] == "order", each)
            told.add((len(values) > 1, each))
        self.assertEqual(len(told), 4)

    def test_all_at_once(self):
        for row in ([("join", at, None) for at in range(5)] + [("drop", at, None) for at in range(5)],
                    [("drop", 1, None), ("join", 1, None), ("join", 2, None)] + [("has", 1, at % 2) for at in range(7)],
                    [("has", at, 0) for at in range(10)], [("has", 3, 1)] * 9 + [("join", 3, None)]):
            history = (("set",), together(row))
            paper = flag_paper(history)
            self.assertTrue(paper[0] == "order" and is_explanation(history, paper[1]))


if __name__ == "__main__":
    unittest.main()
