"""Papers on heads by rank, and explanations by stairs: [28], [29]."""

import random
import unittest
from itertools import combinations, product

import headfacts
import oracle
import stackfacts
from checks import Checks
from paperchecks import PaperChecks, is_ascending_row, is_explanation, is_number
from samples import behind, every, matched, mixed, together
from shortbars.errors import BadHistory, BadPaper
from shortbars.heads import check_heads, heads_paper, is_explained_heads, least_late, order_by_stairs
from test_spans import LOOSE
from test_stairs import LATE, SOME

WORDS = (("put", 0, None), ("put", 1, None), ("take", None, 0), ("take", None, 1), ("take", None, None))
# 7 is to go while 3 or 5 is in all the time; beside one of these alone it could.
CHAIN = (("heads",), (
    (0, 1, 0, "put", 7, None), (2, 3, 0, "put", 3, None), (4, 13, 0, "take", None, 7), (6, 7, 0, "put", 5, None),
    (8, 9, 0, "take", None, 3), (10, 11, 0, "put", 9, None), (14, 15, 0, "take", None, 5)))


def small():
    yield LATE
    yield CHAIN
    for many in (0, 1, 2, 3):
        yield from every("heads", WORDS, many)
    yield from list(every("heads", WORDS, 4))[::23]
    yield from mixed(random.Random(171), ("heads",), 7, 4, 1200)
    yield from matched(random.Random(172), "heads", 7, 2000)


def tens():
    yield from mixed(random.Random(173), ("heads",), 10, 5, 900)
    yield from matched(random.Random(174), "heads", 10, 900)


class TestPapers(PaperChecks, unittest.TestCase):
    tell = staticmethod(heads_paper)
    check = staticmethod(check_heads)
    SORT = "heads"
    SIZES = {"order": 2, "unput": 2, "twice": 3, "early": 2, "late": 2, "covered": 3}
    ONE = (0, 1, 0, "put", 1, None)
    FULL = ((0, 1, 0, "put", 5, None), (2, 8, 0, "take", None, None), (3, 4, 0, "put", 6, None),
            (5, 7, 0, "take", None, 5), (6, 9, 0, "take", None, None), (10, 11, 0, "take", None, 6),
            (12, 13, 0, "put", 4, None), (14, 15, 0, "take", None, None))
    GOODS = (
        (together([("take", None, 5), ("put", 5, None), ("take", None, None)]), ("order", (1, 0, 2)),
         [("order", (0, 1, 2)), ("order", (1, 2, 0)), ("order", [1, 0, 2]), ("order", (1, 0)), ("order", None),
          ("unput", 0), ("unput", 2), ("twice", 0, 2), ("twice", 2, 2), ("early", 0), ("early", 2), ("late", (5,)),
          ("late", ()), ("covered", 2, (5,)), ("covered", 2, ())]),
        # The lesser one goes first, whichever was put first.
        (behind([("put", 6, None), ("put", 5, None), ("take", None, 5), ("take", None, 6)]), ("order", (0, 1, 2, 3)),
         [("late", (5, 6)), ("late", (6,)), ("late", (5,)), ("order", (1, 0, 2, 3))]),
        (behind([("put", 5, None), ("take", None, 6), ("take", None, None), ("take", None, 5)]), ("unput", 1),
         [("unput", 0), ("unput", 2), ("unput", 3), ("unput", 4), ("unput", -1), ("unput", True), ("early", 1),
          ("covered", 2, (5,)), ("twice", 1, 3), ("unput", None), ("unput", 6)]),
        (behind([("put", 5, None), ("take", None, 5), ("take", None, None), ("take", None, 5), ("take", None, None)]),
         ("twice", 1, 3),
         [("twice", 3, 1), ("twice", 1, 1), ("twice", 2, 4), ("twice", 0, 1), ("twice", 1, 2), ("twice", 1, 5),
          ("twice", True, 3), ("twice", 1, None), ("twice", 0, 3), ("unput", 1), ("covered", 2, (5,))]),
        (((0, 1, 0, "take", None, 5), (2, 4, 0, "put", 5, None), (3, 6, 0, "put", 6, None), (5, 7, 0, "take", None, 6)),
         ("early", 0), [("early", 1), ("early", 2), ("early", 3), ("early", 4), ("early", -1), ("early", False)]),
        (LATE[1], ("late", (3, 5)),
         [("late", (3,)), ("late", (5,)), ("late", (3, 7)), ("late", (3, 5, 7)), ("late", (5, 7)), ("late", (7,)),
          ("late", ()), ("late", (5, 3)), ("late", [3, 5]), ("late", (3, 3, 5)), ("late", (3, 5, 9)), ("late", None),
          ("late", 5), ("late", (3, True)), ("late", (None, 5)), ("order", (0, 1, 2, 3, 4, 5)),
          ("covered", 2, (3, 5)), ("covered", 2, ())]),
        # Of what is not matched nothing is told by stairs.
        (LATE[1] + ((30, 31, 0, "take", None, 9),), ("unput", 6), [("late", (3, 5))]),
        (FULL + ((30, 31, 0, "take", None, 9),), ("unput", 8), [("covered", 1, (5, 6))]),
        (FULL, ("covered", 1, (5, 6)),
         [("covered", 1, (5,)), ("covered", 1, (6,)), ("covered", 1, (6, 5)), ("covered", 1, ()), ("covered", 0, (5, 6)),
          ("covered", 3, (5, 6)), ("covered", 8, (5, 6)), ("covered", -1, (4,)), ("covered", 1, (5, 6, 7)),
          ("covered", 1, [5, 6]), ("covered", True, (5, 6)), ("covered", 1, None), ("covered", None, (5, 6)),
          ("covered", 4, (5,)), ("covered", 7, (5, 6)), ("covered", 7, ())]),
        (FULL, ("covered", 1, (4, 5, 6)), []), (FULL, ("covered", 4, (6,)), []), (FULL, ("covered", 7, (4,)), []),
        # Where one is late nothing is covered; without it there may be.
        (LATE[1] + ((30, 31, 0, "put", 1, None), (32, 33, 0, "take", None, None)), ("covered", 7, (1,)),
         [("covered", 7, (1, 3, 5)), ("covered", 7, (1, 3, 5, 7)), ("covered", 7, (3,))]),
        (LATE[1] + ((30, 31, 0, "put", 1, None), (32, 33, 0, "take", None, None)), ("covered", 7, (1, 3, 7)), []),
    )

    def holds(self, history, paper):
        calls = history[1]
        word, things = paper[0], paper[1:]
        if word == "order":
            return is_explanation(history, things[0])
        if word in ("unput", "twice", "early"):
            return stackfacts.take_paper_holds(history, word, things)
        some = things[-1]
        if not is_ascending_row(some) or not stackfacts.is_matched(history):
            return False
        if not set(some) <= set(headfacts.all_put(history)):
            return False
        if word == "late":
            return some != () and headfacts.late(history, some) == some[-1]
        if headfacts.late(history, some) is not None or not is_number(things[0], len(calls)):
            return False
        call = calls[things[0]]
        return call[3] == "take" and call[5] is None and headfacts.is_covered(history, call, some)

    def small(self):
        return small()

    def tens(self):
        return tens()

    def few(self):
        yield CHAIN
        yield from (((self.SORT,), calls) for calls, _, _ in self.GOODS if len(calls) < 9)
        yield from list(every("heads", WORDS, 3))[::3]
        yield from mixed(random.Random(175), ("heads",), 6, 3, 100)
        yield from matched(random.Random(176), "heads", 7, 200)

    def papers(self, history):
        numbers = range(len(history[1]) + 1)
        values = sorted({call[4] for call in history[1]} - {None})
        rows = [some for many in range(4) for some in combinations(values, many)]
        yield from (("order", row) for row in oracle.orders(history)[:200])
        yield from ((word, number) for word in ("unput", "early") for number in numbers)
        yield from (("twice", one, two) for one, two in product(numbers, repeat=2))
        yield from (("late", some) for some in rows)
        yield from (("covered", number, some) for number in numbers for some in rows)

    def lot(self, history, paper):
        return stackfacts.named_by(history, paper)


class TestExplained(Checks, unittest.TestCase):
    def test_against_all_orders(self):
        told = set()
        for history in small():
            rows = oracle.explanations(history)
            self.tells(rows != [], is_explained_heads, history)
            order = order_by_stairs(history)
            told.add(order is None)
            if rows:
                self.assertIn(order, rows)
            else:
                self.assertIsNone(order)
        self.assertEqual(told, {True, False})

    def test_ten_calls(self):
        seen = set()
        for history in tens():
            order = order_by_stairs(history)
            self.tells(order is not None, is_explained_heads, history)
            self.assertTrue(order is None or is_explanation(history, order))
            seen.add((len(history[1]), order is None))
        self.assertTrue({(10, True), (10, False)} <= seen)

    def test_nothing_of_the_facts_is_wanting(self):
        for history in small():
            wanted = stackfacts.is_matched(history)
            if wanted:
                values = headfacts.all_put(history)
                empties = [call for call in history[1] if call[3] == "take" and call[5] is None]
                wanted = headfacts.late(history, values) is None
                wanted = wanted and not any(headfacts.is_covered(history, call, values) for call in empties)
            self.assertEqual(is_explained_heads(history), wanted)

    def test_all_at_once(self):
        rows = (
            [("put", at, None) for at in range(5)] + [("take", None, at) for at in range(5)],
            [("put", at, None) for at in range(10)], [("take", None, None)] * 10,
            [("put", at, None) for at in range(4)] + [("take", None, 3), ("take", None, 0)] + [("take", None, None)] * 4,
            [("put", at, None) for at in range(9)] + [("take", None, 8)],
        )
        for row in rows:
            history = (("heads",), together(row))
            self.tells(True, is_explained_heads, history)
            self.assertTrue(is_explanation(history, order_by_stairs(history)))

    def test_in_turn(self):
        puts = [("put", (3 * at) % 5, None) for at in range(5)]
        history = (("heads",), behind(puts + [("take", None, at) for at in range(5)]))
        self.tells(tuple(range(10)), order_by_stairs, history)
        history = (("heads",), behind(puts + [("take", None, 4 - at) for at in range(5)]))
        self.tells(None, order_by_stairs, history)
        self.tells(("late", (0, 1)), heads_paper, history)

    def test_a_turn_in_one_gap(self):
        # In the gap of 4 goes 3, goes 5, comes and goes 7, is nothing in, and comes 1.
        calls = ((0, 1, 0, "put", 5, None), (2, 3, 0, "put", 3, None), (4, 20, 0, "take", None, None),
                 (5, 21, 0, "put", 7, None), (6, 22, 0, "put", 1, None), (7, 23, 0, "take", None, 7),
                 (8, 24, 0, "take", None, 5), (9, 10, 0, "take", None, 3), (11, 12, 0, "take", None, 1))
        history = (("heads",), calls)
        self.tells(True, is_explained_heads, history)
        self.assertTrue(is_explanation(history, order_by_stairs(history)))

    def test_refusals(self):
        for function in (is_explained_heads, order_by_stairs, least_late):
            self.refuses_histories(function)
            self.refuses_sorts(function, ("heads",))

    def test_what_is_not_matched_is_not_refused(self):
        history = (("heads",), behind([("take", None, 5)]))
        self.tells(False, is_explained_heads, history)
        self.tells(None, order_by_stairs, history)
        self.tells(("unput", 0), heads_paper, history)


class TestLeastLate(Checks, unittest.TestCase):
    def test_some(self):
        self.tells(None, least_late, (("heads",), ()))
        self.tells(None, least_late, SOME)
        self.tells((3, 5), least_late, LATE)
        # Of several with as few the least one.
        calls = behind([("put", 4, None), ("put", 2, None), ("put", 5, None), ("put", 6, None), ("take", None, 6),
                        ("take", None, 5)])
        self.tells((2, 5), least_late, (("heads",), calls))
        # Late or not, empty answers make no difference.
        self.tells(None, least_late, (("heads",), behind([("put", 4, None), ("take", None, None)])))

    def test_three(self):
        self.tells((3, 5, 7), least_late, CHAIN)
        self.tells("late", check_heads, CHAIN, ("late", (3, 5, 7)))
        for some in ((3, 7), (5, 7), (3, 5), (7,)):
            self.refuses(BadPaper, "late", check_heads, CHAIN, ("late", some))

    def test_against_the_words(self):
        sizes = set()
        for history in small():
            if not stackfacts.is_matched(history):
                continue
            values = headfacts.all_put(history)
            rows = [some for many in range(1, len(values) + 1) for some in combinations(values, many)]
            wanted = next((some for some in rows if headfacts.late(history, some) == some[-1]), None)
            self.tells(wanted, least_late, history)
            sizes.add(None if wanted is None else len(wanted))
        self.assertTrue({None, 2, 3} <= sizes)

    def test_ten_calls(self):
        seen = set()
        for history in tens():
            if stackfacts.is_matched(history):
                some = least_late(history)
                seen.add((len(history[1]) > 7, some is None))
                if some is not None:
                    self.tells("late", check_heads, history, ("late", some))
        self.assertTrue({(True, True), (True, False)} <= seen)

    def test_what_is_not_matched(self):
        for calls in LOOSE:
            self.refuses(BadHistory, "match", least_late, (("heads",), calls))
            self.refuses(BadHistory, "sort", least_late, (("stack",), calls))


if __name__ == "__main__":
    unittest.main()
