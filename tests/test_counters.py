"""Counters: what lies between gates, papers and bars: [35], [36], [38]."""

import random
import unittest
from itertools import product

import countfacts
import oracle
from checks import Checks
from paperchecks import PaperChecks, is_explanation
from samples import ODD, TOP, Integer, Row, behind, every, mixed, together
from shortbars.calls import calls_of_lot
from shortbars.counters import check_count, count_bar, count_paper, perhaps_between, surely_between
from shortbars.errors import BadNumber, BadPaper

EMPTY = (("counter",), ())
ADD = ("add", None, None)
WORDS = (ADD, ("count", None, 0), ("count", None, 1), ("count", None, 2))
# The adds 1, 2 and 4: 1 is ahead of the count 3; 2 overlaps it and 5; 4 is between them; 6 is behind all.
SOME = (("counter",), (
    (0, 1, 0, "count", None, 0), (2, 3, 0, "add", None, None), (4, 15, 0, "add", None, None),
    (5, 6, 0, "count", None, 1), (7, 8, 0, "add", None, None), (9, 12, 0, "count", None, 3),
    (13, 14, 0, "add", None, None)))


def near_truth(chance, many, width):
    """A history by chance in which each count tells about as much as there was."""
    moments = []
    added = 0
    for at in range(many):
        word = chance.choice(("add", "add", "count"))
        moments.append((10 * at - chance.randrange(width), 10 * at + 1 + chance.randrange(width), word,
                        None if word == "add" else max(0, added + chance.choice((-1, 0, 0, 0, 1)))))
        added += word == "add"
    row = sorted(moments, key=lambda call: call[0])
    places = {point: place for place, point in enumerate(sorted(
        [(call[0], 0, at) for at, call in enumerate(row)] + [(call[1], 1, at) for at, call in enumerate(row)]))}
    calls = [(places[(call[0], 0, at)], places[(call[1], 1, at)], 0, call[2], None, call[3]) for at, call in enumerate(row)]
    return ("counter",), tuple(sorted(calls))


def small():
    for many in (0, 1, 2, 3):
        yield from every("counter", WORDS, many)
    yield from list(every("counter", WORDS, 4))[::11]
    yield from mixed(random.Random(211), ("counter",), 7, 4, 1200)
    chance = random.Random(212)
    yield from (near_truth(chance, 7, chance.choice((5, 15, 40))) for _ in range(1200))


def tens():
    yield from mixed(random.Random(213), ("counter",), 10, 6, 500)
    chance = random.Random(214)
    yield from (near_truth(chance, 10, chance.choice((5, 15, 40))) for _ in range(700))


class TestBetween(Checks, unittest.TestCase):
    def test_some(self):
        for gate, far, surely, perhaps in (
                (None, 0, (), ()), (None, 3, (1,), (1, 2)), (None, 5, (1, 4), (1, 2, 4)), (0, 3, (1,), (1, 2)),
                (0, 5, (1, 4), (1, 2, 4)), (3, 5, (4,), (2, 4)), (5, 3, (), (2,)), (3, 0, (), ()), (5, 0, (), ())):
            self.tells(surely, surely_between, SOME, gate, far)
            self.tells(perhaps, perhaps_between, SOME, gate, far)

    def test_perhaps_behind(self):
        # The add 4 overlaps the count 2 to its end, the add 3 lies behind it.
        history = (("counter",), ((0, 1, 0, "count", None, 0), (2, 9, 0, "add", None, None), (3, 5, 0, "count", None, 1),
                                  (6, 7, 0, "add", None, None), (8, 10, 0, "count", None, 2)))
        self.tells((1,), perhaps_between, history, None, 2)
        self.tells((1, 3), perhaps_between, history, 2, 4)
        self.tells((3,), surely_between, history, 2, 4)
        self.tells((3,), surely_between, history, None, 4)

    def test_against_the_words(self):
        sizes = set()
        for history in list(small())[::2] + list(tens())[::4]:
            for gate in [None] + countfacts.counts(history):
                for far in countfacts.counts(history):
                    if gate != far:
                        surely, perhaps = countfacts.surely(history, gate, far), countfacts.perhaps(history, gate, far)
                        self.tells(surely, surely_between, history, gate, far)
                        self.tells(perhaps, perhaps_between, history, gate, far)
                        sizes.add((len(surely), len(perhaps)))
        self.assertTrue({(0, 0), (0, 1), (1, 1), (1, 2), (2, 3)} <= sizes)

    def test_refusals(self):
        for function in (surely_between, perhaps_between):
            self.refuses_histories(function, True, True)
            self.refuses_sorts(function, ("counter",), True, True)
            for far, rights in ((5, (0, 3)), (0, (3, 5))):
                def is_right(thing):
                    return thing is None or type(thing) is int and thing in rights
                self.refuses_odd(BadNumber, is_right, function, (SOME,), (far,))
            self.refuses_odd(BadNumber, lambda thing: type(thing) is int and thing in (0, 3, 5), function, (SOME, None))
            self.refuses_odd(BadNumber, lambda thing: type(thing) is int and thing in (3, 5), function, (SOME, 0))
            for number in (1, 2, 4, 6, 7, -1, True, "0"):
                self.refuses(BadNumber, number, function, SOME, number, None)
                self.refuses(BadNumber, number, function, SOME, number, number)
                self.refuses(BadNumber, number, function, SOME, None, number)
            # Both are wrong: the first one is told; far may not be None, nor the gate itself.
            self.refuses(BadNumber, "first", function, SOME, "first", "second")
            self.refuses(BadNumber, None, function, SOME, None, None)
            self.refuses(BadNumber, None, function, SOME, 0, None)
            self.refuses(BadNumber, 3, function, SOME, 3, 3)
            self.refuses(BadNumber, 0, function, EMPTY, None, 0)


class TestPapers(PaperChecks, unittest.TestCase):
    tell = staticmethod(count_paper)
    check = staticmethod(check_count)
    SORT = "counter"
    SIZES = {"order": 2, "back": 3, "many": 3, "few": 3}
    ONE = (0, 1, 0, "add", None, None)
    GOODS = (
        (together([("count", None, 1), ADD, ("count", None, 0)]), ("order", (2, 1, 0)),
         [("order", (0, 1, 2)), ("order", (1, 0, 2)), ("order", [2, 1, 0]), ("order", (2, 1)), ("order", None),
          ("back", 0, 2), ("back", 2, 0), ("many", None, 0), ("many", 2, 0), ("few", 2, 0), ("few", None, 0),
          ("few", None, 2), ("many", None, 2)]),
        (behind([ADD, ADD, ("count", None, 2), ("count", None, 1)]), ("back", 2, 3),
         [("back", 3, 2), ("back", 2, 2), ("back", None, 3), ("back", 2, None), ("back", 0, 3), ("back", 2, 4),
          ("back", 2, True), ("many", 2, 3), ("few", 2, 3), ("many", 3, 2), ("many", None, 2)]),
        (behind([ADD, ADD, ("count", None, 1), ADD, ("count", None, 2)]), ("many", None, 2),
         [("many", 2, 4), ("many", 2, None), ("many", None, 0), ("many", 2, 2), ("many", None, None), ("many", 4, 2),
          ("many", None, True), ("many", 0, 2), ("few", None, 2), ("back", 2, 4)]),
        (behind([ADD, ADD, ("count", None, 1), ADD, ("count", None, 2)]), ("many", None, 4), []),
        (behind([("count", None, 0), ADD, ADD, ("count", None, 1)]), ("many", 0, 3), [("many", 3, 0)]),
        # Of two with the same TOLD either may be the first one.
        (((0, 1, 0, "count", None, 0), (2, 3, 0, "add", None, None), (4, 5, 0, "count", None, 0)), ("many", 0, 2),
         [("many", 2, 0), ("few", 0, 2), ("few", 2, 0), ("back", 0, 2)]),
        (behind([ADD, ("count", None, 3), ADD]), ("few", None, 1),
         [("few", None, 0), ("few", 1, 1), ("few", None, None), ("few", 1, None), ("few", None, True), ("few", 0, 1),
          ("few", None, 3), ("few", False, 1), ("many", None, 1), ("back", None, 1)]),
        (behind([ADD, ("count", None, 1), ADD, ("count", None, 3)]), ("few", 1, 3), [("few", 3, 1), ("few", None, 1)]),
        (behind([ADD, ("count", None, 1), ADD, ("count", None, 3)]), ("few", None, 3), []),
        ((ONE, (2, 3, 0, "count", None, TOP)), ("few", None, 1), [("many", None, 1)]),
        (behind([ADD, ("count", None, 1), ("count", None, 0)]), ("back", 1, 2), [("few", 1, 2), ("many", 1, 2)]),
        # Of two gates the later one may be the first one.
        (behind([ADD, ("count", None, 1), ("count", None, 0)]), ("few", 2, 1), [("back", 2, 1), ("few", None, 2)]),
        (behind([ADD, ("count", None, 1), ("count", None, 0)]), ("many", None, 2), [("many", 2, 1), ("many", None, 1)]),
    )

    def holds(self, history, paper):
        if paper[0] == "order":
            return is_explanation(history, paper[1])
        return countfacts.holds(history, *paper)

    def small(self):
        return small()

    def tens(self):
        return tens()

    def few(self):
        yield from (((self.SORT,), calls) for calls, _, _ in self.GOODS)
        yield from list(every("counter", WORDS, 3))[::2]
        chance = random.Random(215)
        yield from (near_truth(chance, 6, chance.choice((5, 15, 40))) for _ in range(250))
        yield from mixed(random.Random(216), ("counter",), 6, 4, 150)

    def papers(self, history):
        things = [None] + list(range(len(history[1]) + 1))
        yield from (("order", row) for row in oracle.orders(history)[:200])
        yield from ((word, one, two) for word in ("back", "many", "few") for one, two in product(things, repeat=2))

    def lot(self, history, paper):
        return countfacts.bar(history, paper)

    def test_all_at_once(self):
        rows = ([ADD] * 10, [ADD] * 5 + [("count", None, at) for at in range(5)],
                [("count", None, 4 - at) for at in range(5)] + [ADD] * 5, [("count", None, 0)] * 10,
                [ADD, ("count", None, 1)] * 5)
        for row in rows[:4]:
            history = (("counter",), together(row))
            paper = count_paper(history)
            self.assertTrue(paper[0] == "order" and is_explanation(history, paper[1]))
        self.assertEqual(count_paper((("counter",), behind([ADD, ("count", None, 1), ADD, ("count", None, 2)])))[1], (0, 1, 2, 3))
        self.assertEqual(count_paper((("counter",), together(rows[4])))[0], "order")

    def test_the_add_that_ends_first_comes_first(self):
        # The long add may not come ahead of the short ones, as these are all that the counts may tell of.
        calls = ((0, 20, 0, "add", None, None), (1, 2, 0, "add", None, None), (3, 4, 0, "count", None, 1),
                 (5, 6, 0, "add", None, None), (7, 8, 0, "count", None, 2), (21, 22, 0, "count", None, 3))
        self.tells(("order", (1, 2, 3, 4, 0, 5)), count_paper, (("counter",), calls))


class TestBars(Checks, unittest.TestCase):
    def test_some(self):
        history = (("counter",), behind([ADD, ("count", None, 2), ADD, ("count", None, 0), ADD, ("count", None, 4)]))
        self.tells((1, 3), count_bar, history, ("back", 1, 3))
        self.tells((0, 2, 3), count_bar, history, ("many", None, 3))
        self.tells((0, 1, 2, 4), count_bar, history, ("few", None, 1))
        self.tells((0, 2, 4, 5), count_bar, history, ("few", None, 5))
        history = (("counter",), behind([ADD, ("count", None, 1), ADD, ADD, ("count", None, 2), ADD]))
        self.tells((1, 2, 3, 4), count_bar, history, ("many", 1, 4))

    def test_alone(self):
        seen = set()
        for history in TestPapers().few():
            for paper in TestPapers().papers(history):
                if paper[0] != "order" and TestPapers().holds(history, paper):
                    wanted = countfacts.bar(history, paper)
                    self.tells(wanted, count_bar, history, paper)
                    self.assertEqual(oracle.explanations(calls_of_lot(history, wanted)), [])
                    seen.add((paper[0], paper[1] is None))
        self.assertEqual(len(seen), 5)

    def test_ten_calls(self):
        seen = set()
        for history in tens():
            paper = count_paper(history)
            if paper[0] != "order":
                self.tells(countfacts.bar(history, paper), count_bar, history, paper)
                seen.add((paper[0], len(history[1]) > 7))
        self.assertTrue({(word, True) for word in ("back", "many", "few")} <= seen)

    def test_no_more_is_told_than_is_added(self):
        for history in small():
            if oracle.explanations(history):
                self.assertTrue(all(call[5] <= len(countfacts.adds(history)) for call in history[1] if call[3] == "count"))

    def test_what_is_told_is_plain(self):
        history = (("counter",), behind([ADD, ("count", None, 1), ("count", None, 0)]))
        self.tells((1, 2), count_bar, history, Row(("back", Integer(1), Integer(2))))

    def test_refusals(self):
        self.refuses_histories(count_bar, None)
        self.refuses_sorts(count_bar, ("counter",), None)
        history = (("counter",), ((0, 1, 0, "count", None, 0),))
        for thing in ODD:
            right = type(thing) is tuple and len(thing) == 2 and type(thing[0]) is str and thing[0] == "order"
            self.refuses(BadPaper, "order" if right else "form", count_bar, history, thing)
            self.refuses(BadPaper, "order", count_bar, history, ("order", thing))
            for word in ("back", "many", "few"):
                self.refuses(BadPaper, word, count_bar, history, (word, thing, 0))
                self.refuses(BadPaper, word, count_bar, history, (word, 0, thing))
        self.refuses(BadPaper, "order", count_bar, EMPTY, ("order", ()))
        for paper in (("back",), ("back", 0), ("many", 0, 0, 0), ["few", 0, 0], ("gap", 0, 0), ("order", 0, 0)):
            self.refuses(BadPaper, "form", count_bar, history, paper)


if __name__ == "__main__":
    unittest.main()
