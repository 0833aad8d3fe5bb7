"""Papers on stacks, and explanations by piles: [22], [23]."""

import random
import unittest
from itertools import combinations, product

import oracle
import stackfacts
from checks import Checks
from paperchecks import PaperChecks, is_ascending_row, is_explanation, is_number
from samples import behind, every, matched, mixed, together
from shortbars.stacks import check_stack, is_explained_stack, order_by_piles, stack_paper
from test_piles import THREE

WORDS = (("put", 0, None), ("put", 1, None), ("take", None, 0), ("take", None, 1), ("take", None, None))


def small():
    yield THREE
    for many in (0, 1, 2, 3):
        yield from every("stack", WORDS, many)
    yield from list(every("stack", WORDS, 4))[::23]
    yield from mixed(random.Random(141), ("stack",), 7, 4, 1200)
    yield from matched(random.Random(142), "stack", 7, 2000)


def tens():
    yield from mixed(random.Random(143), ("stack",), 10, 5, 900)
    yield from matched(random.Random(144), "stack", 10, 900)


class TestPapers(PaperChecks, unittest.TestCase):
    tell = staticmethod(stack_paper)
    check = staticmethod(check_stack)
    SORT = "stack"
    SIZES = {"order": 2, "unput": 2, "twice": 3, "early": 2, "pile": 2, "covered": 3}
    ONE = (0, 1, 0, "put", 1, None)
    # 5 is put ahead of 6 and taken ahead of it; 3 is kept, and free is 8.
    CROSSED = behind([("put", 3, None), ("put", 5, None), ("put", 6, None), ("take", None, 5), ("take", None, 6)]) \
        + ((20, 23, 0, "put", 8, None), (21, 22, 0, "take", None, 8))
    FULL = ((0, 1, 0, "put", 5, None), (2, 8, 0, "take", None, None), (3, 4, 0, "put", 6, None),
            (5, 7, 0, "take", None, 5), (6, 9, 0, "take", None, None), (10, 11, 0, "take", None, 6),
            (12, 13, 0, "put", 4, None), (14, 15, 0, "take", None, None))
    GOODS = (
        (together([("take", None, 5), ("put", 5, None), ("take", None, None)]), ("order", (1, 0, 2)),
         [("order", (0, 1, 2)), ("order", (1, 2, 0)), ("order", [1, 0, 2]), ("order", (1, 0)), ("order", None),
          ("unput", 0), ("unput", 2), ("twice", 0, 2), ("twice", 2, 2), ("early", 0), ("early", 2), ("pile", (5,)),
          ("pile", ()), ("covered", 2, (5,)), ("covered", 2, ())]),
        (behind([("put", 5, None), ("put", 6, None), ("take", None, 6), ("take", None, 5)]), ("order", (0, 1, 2, 3)),
         [("pile", (5, 6)), ("pile", (5,)), ("order", (0, 1, 3, 2))]),
        (behind([("put", 5, None), ("take", None, 6), ("take", None, None), ("take", None, 5)]), ("unput", 1),
         [("unput", 0), ("unput", 2), ("unput", 3), ("unput", 4), ("unput", -1), ("unput", True), ("early", 1),
          ("covered", 2, (5,)), ("twice", 1, 3), ("unput", None), ("unput", 6)]),
        (behind([("put", 5, None), ("take", None, 5), ("take", None, None), ("take", None, 5), ("take", None, None)]),
         ("twice", 1, 3),
         [("twice", 3, 1), ("twice", 1, 1), ("twice", 2, 4), ("twice", 0, 1), ("twice", 1, 2), ("twice", 1, 5),
          ("twice", True, 3), ("twice", 1, None), ("twice", 0, 3), ("unput", 1), ("covered", 2, (5,))]),
        (behind([("take", None, 5), ("take", None, 5)]), ("twice", 0, 1), [("twice", 1, 0)]),
        (((0, 1, 0, "take", None, 5), (2, 4, 0, "put", 5, None), (3, 6, 0, "put", 6, None), (5, 7, 0, "take", None, 6)),
         ("early", 0), [("early", 1), ("early", 2), ("early", 3), ("early", 4), ("early", -1), ("early", False)]),
        # Each take of a value may be early.
        (behind([("take", None, 5), ("take", None, 5), ("put", 5, None)]), ("early", 1), [("early", 2)]),
        (CROSSED, ("pile", (5, 6)),
         [("pile", (3, 5)), ("pile", (3, 6)), ("pile", (3, 5, 6)), ("pile", (5,)), ("pile", ()), ("pile", (6, 5)),
          ("pile", [5, 6]), ("pile", (5, 5)), ("pile", (5, 6, 8)), ("pile", (8,)), ("pile", (5, 7)), ("pile", None),
          ("pile", 5), ("pile", (5, True)), ("pile", (5, None)), ("order", (0, 1, 2, 3, 4, 5, 6))]),
        # No two of them bar.
        (THREE[1], ("pile", (5, 6, 7)), [("pile", pile) for pile in ((5, 6), (5, 7), (6, 7), (5,), (6,), (7,))]),
        # What is not joined does not bar, though neither can lie beneath the other one.
        (behind([("put", 5, None), ("take", None, 5), ("put", 6, None), ("take", None, 6)]), ("order", (0, 1, 2, 3)),
         [("pile", (5, 6))]),
        # Of what is not matched nothing is told by piles.
        (CROSSED + ((30, 31, 0, "take", None, 9),), ("unput", 7), [("pile", (5, 6))]),
        (FULL + ((30, 31, 0, "take", None, 9),), ("unput", 8), [("covered", 1, (5, 6))]),
        (FULL, ("covered", 1, (5, 6)),
         [("covered", 1, (5,)), ("covered", 1, (6,)), ("covered", 1, (6, 5)), ("covered", 1, ()), ("covered", 0, (5, 6)),
          ("covered", 3, (5, 6)), ("covered", 8, (5, 6)), ("covered", -1, (4,)), ("covered", 1, (5, 6, 7)),
          ("covered", 1, [5, 6]), ("covered", True, (5, 6)), ("covered", 1, None), ("covered", None, (5, 6)),
          ("covered", 4, (5,)), ("covered", 7, (5, 6))]),
        # Joined or not; a kept value is in without end.
        (FULL, ("covered", 1, (4, 5, 6)), []), (FULL, ("covered", 4, (6,)), []), (FULL, ("covered", 7, (4,)), []),
        (FULL, ("covered", 7, (4, 5)), []),
    )

    def holds(self, history, paper):
        calls = history[1]
        word, things = paper[0], paper[1:]
        if word == "order":
            return is_explanation(history, things[0])
        if word in ("unput", "twice", "early"):
            return stackfacts.take_paper_holds(history, word, things)
        pile = things[-1]
        if not is_ascending_row(pile) or pile == () or not stackfacts.is_matched(history):
            return False
        if not set(pile) <= set(stackfacts.spanned(history)):
            return False
        if word == "pile":
            return stackfacts.bars(history, pile)
        if not is_number(things[0], len(calls)):
            return False
        call = calls[things[0]]
        return call[3] == "take" and call[5] is None and stackfacts.is_covered(history, call, pile)

    def small(self):
        return small()

    def tens(self):
        return tens()

    def few(self):
        yield THREE
        yield from (((self.SORT,), calls) for calls, _, _ in self.GOODS)
        yield from list(every("stack", WORDS, 3))[::3]
        yield from mixed(random.Random(145), ("stack",), 6, 3, 100)
        yield from matched(random.Random(146), "stack", 7, 200)

    def papers(self, history):
        numbers = range(len(history[1]) + 1)
        values = sorted({call[4] for call in history[1]} - {None})
        piles = [pile for many in range(4) for pile in combinations(values, many)]
        yield from (("order", row) for row in oracle.orders(history)[:200])
        yield from ((word, number) for word in ("unput", "early") for number in numbers)
        yield from (("twice", one, two) for one, two in product(numbers, repeat=2))
        yield from (("pile", pile) for pile in piles)
        yield from (("covered", number, pile) for number in numbers for pile in piles)

    def lot(self, history, paper):
        return stackfacts.named_by(history, paper)


class TestExplained(Checks, unittest.TestCase):
    def test_against_all_orders(self):
        told = set()
        for history in small():
            rows = oracle.explanations(history)
            self.tells(rows != [], is_explained_stack, history)
            order = order_by_piles(history)
            told.add(order is None)
            if rows:
                self.assertIn(order, rows)
            else:
                self.assertIsNone(order)
        self.assertEqual(told, {True, False})

    def test_ten_calls(self):
        seen = set()
        for history in tens():
            order = order_by_piles(history)
            self.tells(order is not None, is_explained_stack, history)
            self.assertTrue(order is None or is_explanation(history, order))
            seen.add((len(history[1]), order is None))
        self.assertTrue({(10, True), (10, False)} <= seen)

    def test_nothing_of_the_facts_is_wanting(self):
        # Explained exactly if matched, no joined pile bars, and nothing is covered by all together.
        for history in small():
            wanted = stackfacts.is_matched(history)
            if wanted:
                values = stackfacts.spanned(history)
                wanted = not any(stackfacts.bars(history, pile) for pile in stackfacts.piles(history))
                empties = [call for call in history[1] if call[3] == "take" and call[5] is None]
                wanted = wanted and not any(stackfacts.is_covered(history, call, values) for call in empties)
            self.assertEqual(is_explained_stack(history), wanted)

    def test_each_that_can_lies_beneath_in_some_explanation(self):
        several = 0
        for history in matched(random.Random(147), "stack", 7, 400):
            rows = oracle.explanations(history)
            if not rows:
                continue
            for block in stackfacts.blocks(history):
                found = stackfacts.bases(history, block)
                self.assertNotEqual(found, ())
                several += len(block) > 1 and len(found) > 1
                for value in found:
                    self.assertTrue(any(self.lies_beneath(history, row, value, block) for row in rows), (history, value))
        self.assertGreater(several, 10)

    def lies_beneath(self, history, row, value, block):
        calls = history[1]
        puts = {calls[number][4]: at for at, number in enumerate(row) if calls[number][3] == "put"}
        takes = {calls[number][5]: at for at, number in enumerate(row) if calls[number][3] == "take"}
        last = len(row)
        return all(puts[value] < puts[far] and takes.get(value, last) > takes.get(far, last - 1)
                   for far in block if far != value)

    def test_all_at_once(self):
        rows = (
            [("put", at, None) for at in range(5)] + [("take", None, at) for at in range(5)],
            [("put", at, None) for at in range(10)], [("take", None, None)] * 10,
            [("put", at, None) for at in range(4)] + [("take", None, 3), ("take", None, 0)] + [("take", None, None)] * 4,
            [("put", at, None) for at in range(9)] + [("take", None, 4)],
        )
        for row in rows:
            history = (("stack",), together(row))
            self.tells(True, is_explained_stack, history)
            self.assertTrue(is_explanation(history, order_by_piles(history)))

    def test_deep_ones(self):
        puts = [("put", at, None) for at in range(5)]
        down = (("stack",), behind(puts + [("take", None, 4 - at) for at in range(5)]))
        self.tells(tuple(range(10)), order_by_piles, down)
        up = (("stack",), behind(puts + [("take", None, at) for at in range(5)]))
        self.tells(None, order_by_piles, up)
        self.tells(("pile", (0, 1)), stack_paper, up)
        kept = (("stack",), behind([("put", at, None) for at in range(9, -1, -1)]))
        self.tells(tuple(range(10)), order_by_piles, kept)

    def test_what_stands_at_the_same_moment(self):
        # 7 and 8 both have to be in when the first put ends, and go when the last take begins.
        calls = ((0, 9, 0, "put", 7, None), (1, 4, 0, "put", 8, None), (5, 20, 0, "take", None, 7),
                 (10, 21, 0, "take", None, 8))
        history = (("stack",), calls)
        self.assertTrue(is_explanation(history, order_by_piles(history)))
        # An empty answer behind a stretch that holds its begin, ahead of one that holds its end.
        calls = ((0, 1, 0, "put", 7, None), (2, 11, 0, "take", None, None), (3, 6, 0, "take", None, 7),
                 (4, 8, 0, "put", 8, None), (5, 12, 0, "take", None, None))
        history = (("stack",), calls)
        self.assertTrue(is_explanation(history, order_by_piles(history)))

    def test_refusals(self):
        for function in (is_explained_stack, order_by_piles):
            self.refuses_histories(function)
            self.refuses_sorts(function, ("stack",))

    def test_what_is_not_matched_is_not_refused(self):
        history = (("stack",), behind([("take", None, 5)]))
        self.tells(False, is_explained_stack, history)
        self.tells(None, order_by_piles, history)
        self.tells(("unput", 0), stack_paper, history)


if __name__ == "__main__":
    unittest.main()
