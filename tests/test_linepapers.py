"""Papers on queues: told, checked, and refused: [18]."""

import random
import unittest
from itertools import product

import oracle
import queuefacts
from checks import Checks, alike
from oracle import ahead
from samples import ODD, Row, Same, Text, behind, every, matched, mixed, together
from shortbars.calls import calls_of_lot
from shortbars.errors import BadPaper
from shortbars.linepapers import check_queue, queue_paper

SIZES = {"order": 2, "unput": 2, "twice": 3, "early": 3, "turn": 5, "full": 3}
WORDS = (("put", 0, None), ("put", 1, None), ("take", None, 0), ("take", None, 1), ("take", None, None))


def holds(history, paper):
    """Whether a paper of a right form is as told, straight from the words."""
    calls = history[1]
    word, things = paper[0], paper[1:]
    if word == "order":
        return any(alike(things[0], row) for row in oracle.explanations(history))
    numbers = things[:1] if word == "full" else things[:3] if word == "turn" and things[3] is None else things
    if not all(type(thing) is int and 0 <= thing < len(calls) for thing in numbers):
        return False
    row = [calls[number] for number in numbers]
    if word == "turn":
        if [call[3] for call in row] != ["put", "put"] + ["take"] * (len(row) - 2) or not ahead(row[0], row[1]):
            return False
        if row[2][5] != row[1][4]:
            return False
        if len(row) == 3:
            return not queuefacts.takes_of(history, row[0][4])
        return row[3][5] == row[0][4] and ahead(row[2], row[3])
    if row[0][3] != "take":
        return False
    if word == "full":
        return row[0][5] is None and queuefacts.is_cover(history, numbers[0], things[1])
    if row[0][5] is None:
        return False
    if word == "unput":
        return queuefacts.put_of(history, row[0][5]) is None
    if word == "twice":
        return numbers[0] < numbers[1] and row[1][3] == "take" and row[1][5] == row[0][5]
    return row[1][3] == "put" and row[1][4] == row[0][5] and ahead(row[0], row[1])


class TestOneOfEachWord(Checks, unittest.TestCase):
    def check(self, calls, good, near):
        """A paper that holds, and papers near it that do not."""
        history = (("queue",), calls)
        self.tells(good[0], check_queue, history, good)
        self.assertTrue(holds(history, good))
        for paper in near:
            self.assertFalse(holds(history, paper))
            self.refuses(BadPaper, paper[0], check_queue, history, paper)

    def test_order(self):
        calls = together([("take", None, 5), ("put", 5, None), ("take", None, None)])
        self.check(calls, ("order", (1, 0, 2)),
                   [("order", (0, 1, 2)), ("order", (1, 2, 0)), ("order", [1, 0, 2]), ("order", (1, 0)), ("order", None),
                    ("order", (True, 0, 2)), ("unput", 0), ("twice", 0, 2), ("early", 0, 1), ("full", 2, (5,)),
                    ("turn", 1, 1, 0, 0)])
        self.tells("order", check_queue, (("queue",), calls), queue_paper((("queue",), calls)))

    def test_unput(self):
        calls = behind([("put", 5, None), ("take", None, 6), ("take", None, None), ("take", None, 5)])
        self.check(calls, ("unput", 1), [("unput", 0), ("unput", 2), ("unput", 3), ("unput", 4), ("unput", True)])
        self.tells(("unput", 1), queue_paper, (("queue",), calls))

    def test_twice(self):
        calls = behind([("put", 5, None), ("take", None, 5), ("take", None, None), ("take", None, 5),
                        ("take", None, None)])
        self.check(calls, ("twice", 1, 3),
                   [("twice", 3, 1), ("twice", 1, 1), ("twice", 2, 4), ("twice", 0, 1), ("twice", 1, 2), ("twice", 1, 5),
                    ("twice", True, 3), ("twice", 1, None), ("twice", None, 3)])
        self.tells(("twice", 1, 3), queue_paper, (("queue",), calls))
        # Of a value that is never put, too.
        self.check(behind([("take", None, 5), ("take", None, 5)]), ("twice", 0, 1), [("twice", 1, 0)])
        self.check(behind([("take", None, 5), ("take", None, 5)]), ("unput", 0), [])

    def test_early(self):
        calls = ((0, 1, 0, "take", None, 5), (2, 4, 0, "put", 5, None), (3, 5, 0, "put", 6, None),
                 (6, 7, 0, "take", None, 6))
        self.check(calls, ("early", 0, 1),
                   [("early", 1, 0), ("early", 0, 2), ("early", 3, 2), ("early", 0, 0), ("early", 0, 4),
                    ("early", False, 1), ("early", 0, True), ("early", 0, None)])
        self.tells(("early", 0, 1), queue_paper, (("queue",), calls))

    def test_turn(self):
        calls = behind([("put", 5, None), ("put", 6, None), ("take", None, 6), ("take", None, 5)])
        self.check(calls, ("turn", 0, 1, 2, 3),
                   [("turn", 0, 1, 2, None), ("turn", 1, 0, 2, 3), ("turn", 0, 1, 3, 2), ("turn", 1, 0, 3, 2),
                    ("turn", 0, 0, 2, 3), ("turn", 0, 1, 2, 4), ("turn", False, 1, 2, 3), ("turn", 0, True, 2, 3),
                    ("turn", 0, 1, None, 3), ("turn", 0, 1, None, None), ("turn", 0, 1, 2, True)])
        self.tells(("turn", 0, 1, 2, 3), queue_paper, (("queue",), calls))

    def test_turn_without_a_take(self):
        calls = behind([("put", 5, None), ("put", 6, None), ("take", None, 6), ("take", None, None)])
        self.check(calls, ("turn", 0, 1, 2, None),
                   [("turn", 0, 1, 2, 2), ("turn", 0, 1, 3, None), ("turn", 1, 0, 2, None), ("turn", 0, 1, 2, 3),
                    ("turn", 0, 1, 2, False)])
        self.tells(("turn", 0, 1, 2, None), queue_paper, (("queue",), calls))

    def test_in_papers_each_take_is_one(self):
        calls = behind([("put", 5, None), ("put", 6, None), ("take", None, 5), ("take", None, 6), ("take", None, 5)])
        self.check(calls, ("turn", 0, 1, 3, 4), [("turn", 0, 1, 3, 2), ("turn", 0, 1, 3, None)])
        calls = behind([("take", None, 5), ("take", None, 5), ("put", 5, None)])
        for number in (0, 1):
            self.check(calls, ("early", number, 2), [("early", 2, number)])

    def test_full(self):
        calls = ((0, 1, 0, "put", 5, None), (2, 8, 0, "take", None, None), (3, 4, 0, "put", 6, None),
                 (5, 6, 0, "take", None, 5), (7, 9, 0, "take", None, None), (10, 11, 0, "take", None, 6))
        self.check(calls, ("full", 1, (5, 6)),
                   [("full", 1, (5,)), ("full", 1, (6,)), ("full", 1, (6, 5)), ("full", 1, ()), ("full", 1, [5, 6]),
                    ("full", 0, (5, 6)), ("full", 3, (5, 6)), ("full", 6, (5, 6)), ("full", 1, (5, 6, 7)),
                    ("full", 1, None), ("full", True, (5, 6)), ("full", 1, (5, True)), ("full", 1, (5, None)),
                    ("full", 4, ()), ("full", 1, 5)])
        self.check(calls, ("full", 4, (6,)), [("full", 4, (5,))])
        self.check(calls, ("full", 4, (5, 6)), [("full", 5, (5, 6))])
        self.assertEqual(queue_paper((("queue",), calls))[0], "full")
        # What never goes out stands as the last one only.
        calls = calls[:5]
        self.check(calls, ("full", 1, (5, 6)), [("full", 1, (5, 6, 6)), ("full", 1, (5, 6, 5))])
        self.check(calls, ("full", 1, (5, 5, 6)), [])

    def test_no_calls(self):
        self.tells(("order", ()), queue_paper, (("queue",), ()))
        self.check((), ("order", ()), [("order", (0,)), ("unput", 0), ("twice", 0, 0), ("turn", 0, 0, 0, None)])


class TestAgainstTheOracle(Checks, unittest.TestCase):
    def small(self):
        for many in (1, 2, 3):
            yield from every("queue", WORDS, many)
        yield from list(every("queue", WORDS, 4))[::23]
        yield from mixed(random.Random(91), ("queue",), 7, 4, 1500)
        yield from matched(random.Random(94), "queue", 7, 2000)

    def test_order_is_told_just_where_one_is(self):
        words = set()
        for history in self.small():
            paper = queue_paper(history)
            words.add(paper[0])
            self.assertEqual(paper[0] == "order", oracle.explanations(history) != [], history)
            self.assertTrue(holds(history, paper), (history, paper))
            self.tells(paper[0], check_queue, history, paper)
            self.bars(history, paper)
        self.assertEqual(words, set(SIZES))

    def bars(self, history, paper):
        """The calls of the paper, with all calls of their values, are not explained either."""
        if paper[0] == "order":
            return
        calls = history[1]
        numbers = [thing for thing in paper[1:] if type(thing) is int]
        values = {calls[at][4] if calls[at][3] == "put" else calls[at][5] for at in numbers}
        values = (values | set(paper[2] if paper[0] == "full" else ())) - {None}
        lot = [at for at, call in enumerate(calls) if at in numbers or call[4] in values or call[5] in values]
        self.assertEqual(oracle.explanations(calls_of_lot(history, tuple(lot))), [])

    def test_all_papers_of_small_ones(self):
        chance = random.Random(92)
        for history in list(every("queue", WORDS, 3))[::9] + list(mixed(chance, ("queue",), 4, 3, 60)):
            explained = oracle.explanations(history) != []
            for paper in self.papers(history):
                if holds(history, paper):
                    self.tells(paper[0], check_queue, history, paper)
                    self.assertEqual(paper[0] == "order", explained)
                else:
                    self.refuses(BadPaper, paper[0], check_queue, history, paper)

    def papers(self, history):
        numbers = range(len(history[1]))
        values = queuefacts.values_put(history)
        covers = [cover for many in range(3) for cover in product(values, repeat=many)]
        yield from (("order", row) for row in oracle.orders(history))
        yield from (("unput", number) for number in numbers)
        yield from ((word, one, two) for word in ("twice", "early") for one in numbers for two in numbers)
        yield from (("full", number, cover) for number in numbers for cover in covers)
        yield from (("turn",) + things + (last,) for things in product(numbers, repeat=3) for last in (None,) + tuple(numbers))

    def test_ten_calls(self):
        words = set()
        tens = list(mixed(random.Random(93), ("queue",), 10, 5, 1500)) + list(matched(random.Random(95), "queue", 10, 1500))
        for history in tens:
            calls = history[1]
            paper = queue_paper(history)
            words.add(paper[0])
            self.tells(paper[0], check_queue, history, paper)
            if paper[0] == "order":
                told, _ = oracle.run(history, paper[1])
                self.assertEqual(told, tuple((True, calls[at][5]) for at in paper[1]))
                self.assertFalse(any(ahead(calls[far], calls[near])
                                     for at, near in enumerate(paper[1]) for far in paper[1][at + 1:]))
            else:
                self.assertTrue(holds(history, paper))
        self.assertEqual(words, set(SIZES))

    def test_all_at_once(self):
        rows = (
            [("put", at, None) for at in range(5)] + [("take", None, at) for at in range(5)],
            [("take", None, at) for at in range(5)] + [("put", at, None) for at in range(5)],
            [("put", at, None) for at in range(4)] + [("take", None, 3 - at) for at in range(4)] + [("take", None, None)] * 2,
            [("put", at, None) for at in range(9)] + [("take", None, 8)],
            [("put", at, None) for at in range(8)] + [("take", None, 7), ("take", None, None)],
            [("put", at, None) for at in range(10)], [("take", None, None)] * 10,
        )
        for row in rows:
            history = (("queue",), together(row))
            paper = queue_paper(history)
            self.assertEqual(paper[0], "order")
            self.tells("order", check_queue, history, paper)

    def test_an_empty_answer_wants_a_turn_of_its_own(self):
        # 6 may be put ahead of 5, but not where there is a time at which the queue is empty.
        calls = ((0, 10, 0, "put", 5, None), (5, 100, 0, "take", None, 5), (8, 30, 0, "put", 6, None),
                 (12, 18, 0, "take", None, None), (20, 90, 0, "take", None, 6))
        for one, two in ((5, 6), (6, 5)):
            named = tuple(call[:4] + tuple({5: one, 6: two, None: None}[part] for part in call[4:]) for call in calls)
            paper = queue_paper((("queue",), named))
            self.tells("order", check_queue, (("queue",), named), paper)


class TestRefusals(Checks, unittest.TestCase):
    ONE = (("queue",), ((0, 1, 0, "put", 1, None),))

    def test_histories(self):
        self.refuses_histories(queue_paper)
        self.refuses_sorts(queue_paper, ("queue",))
        self.refuses_histories(check_queue, None)
        self.refuses_sorts(check_queue, ("queue",), None)

    def test_forms(self):
        for thing in ODD:
            right = type(thing) is tuple and len(thing) == 2 and type(thing[0]) is str and thing[0] == "order"
            if right and thing[1] == (0,):
                self.tells("order", check_queue, self.ONE, thing)
            else:
                self.refuses(BadPaper, "order" if right else "form", check_queue, self.ONE, thing)
        for word, size in SIZES.items():
            for many in range(8):
                paper = (word,) + (0,) * many
                if many + 1 != size:
                    self.refuses(BadPaper, "form", check_queue, self.ONE, paper)
                self.refuses(BadPaper, "form", check_queue, self.ONE, list(paper))
                self.refuses(BadPaper, "form", check_queue, self.ONE, (word.upper(),) + (0,) * many)
                self.refuses(BadPaper, "form", check_queue, self.ONE, (Same(),) + (0,) * many)
        for word in ("", "orders", "unwritten", "old", "odds", "pile", b"order", None, True, ("order",), ["order"]):
            self.refuses(BadPaper, "form", check_queue, self.ONE, (word, (0,)))

    def test_odd_things_in_each_place(self):
        empty = (("queue",), behind([("put", 1, None), ("take", None, None)]))
        for thing in ODD:
            if not alike(thing, (0,)):
                self.refuses(BadPaper, "order", check_queue, self.ONE, ("order", thing))
            self.refuses(BadPaper, "unput", check_queue, self.ONE, ("unput", thing))
            for word in ("twice", "early", "full"):
                self.refuses(BadPaper, word, check_queue, self.ONE, (word, thing, 0))
                self.refuses(BadPaper, word, check_queue, self.ONE, (word, 0, thing))
            for place in range(4):
                things = [0, 0, 0, 0]
                things[place] = thing
                self.refuses(BadPaper, "turn", check_queue, self.ONE, ("turn",) + tuple(things))
            self.refuses(BadPaper, "full", check_queue, empty, ("full", 1, thing))
            self.refuses(BadPaper, "full", check_queue, empty, ("full", 1, (thing, thing)))
            if not alike(thing, 1):
                self.refuses(BadPaper, "full", check_queue, empty, ("full", 1, (thing,)))
                self.refuses(BadPaper, "full", check_queue, empty, ("full", thing, (1,)))
        self.tells("full", check_queue, empty, ("full", 1, (1,)))

    def test_the_word_that_is_told_is_plain(self):
        self.tells("order", check_queue, self.ONE, Row((Text("order"), Row((0,)))))


if __name__ == "__main__":
    unittest.main()
