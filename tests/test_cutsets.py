"""Cuts, and the least ones: [54]."""

import random
import unittest
from itertools import combinations

import oracle
from checks import Checks, alike
from samples import ODD, TOP, Integer, Row, behind, grown, mixed, spoiled, together
from shortbars.cellpapers import check_cell
from shortbars.cutsets import cut_size, is_cut, is_in_all, least_cuts
from shortbars.errors import BadValue
from shortbars.linepapers import check_queue, queue_paper

SORTS = ("cell", "queue", "stack", "heads", "set", ("room", 1), ("room", 2), ("room", 9))
ODDS = (("cell",), behind([("write", 5, None), ("write", 6, None), ("read", None, 5), ("read", None, 6), ("read", None, None)]))


def value_of(call):
    return call[4] if call[4] is not None else call[5]


def values_of(history):
    return sorted({value_of(call) for call in history[1]} - {None})


def without(history, some):
    return history[0], tuple(call for call in history[1] if value_of(call) not in some)


def cuts_by_trying(history):
    """All cuts, those with fewer values first."""
    values = values_of(history)
    return [some for many in range(len(values) + 1) for some in combinations(values, many)
            if oracle.explanations(without(history, some))]


def small(seed=620):
    for at, sort in enumerate(SORTS):
        chance = random.Random(seed + at)
        yield (sort,), ()
        yield from mixed(chance, (sort,), 6, 4, 60)
        for _ in range(40):
            yield spoiled(chance, grown(chance, (sort,), 7, 5, chance.choice((2, 9, 25))))


class TestCuts(Checks, unittest.TestCase):
    def test_some(self):
        # What is told last bars with both of them.
        self.tells(((5, 6),), least_cuts, ODDS)
        self.tells(2, cut_size, ODDS)
        history = (("cell",), ODDS[1][:4])
        self.tells(((5,), (6,)), least_cuts, history)
        self.tells(1, cut_size, history)
        for value in (5, 6, Integer(5)):
            self.tells(False, is_in_all, history, value)
            self.tells(True, is_in_all, ODDS, value)
        for some, wanted in (((5,), True), ((6,), True), ((5, 6), True), ((), False), ((7,), False), ((5, 7), False),
                             ((6, 5), False), ((5, 5), False), ([5], False), ((True,), False), ((None,), False), (None, False),
                             (Row((Integer(5),)), True), (5, False), ("5", False)):
            self.tells(wanted, is_cut, history, some)

    def test_an_explained_one(self):
        for sort in SORTS:
            self.tells(((),), least_cuts, ((sort,), ()))
            self.tells(0, cut_size, ((sort,), ()))
            self.tells(True, is_cut, ((sort,), ()), ())
        history = (("queue",), behind([("put", 5, None), ("take", None, 5), ("take", None, None)]))
        self.tells(((),), least_cuts, history)
        self.tells(False, is_in_all, history, 5)
        self.tells(True, is_cut, history, ())
        self.tells(True, is_cut, history, (5,))
        nothing = (("queue",), behind([("take", None, None)] * 3))
        self.tells(((),), least_cuts, nothing)

    def test_by_trying_all_lots(self):
        seen = set()
        for history in small():
            cuts = cuts_by_trying(history)
            least = tuple(some for some in cuts if len(some) == len(cuts[0]))
            self.tells(least, least_cuts, history)
            self.tells(len(cuts[0]), cut_size, history)
            for value in values_of(history):
                self.tells(all(value in some for some in least), is_in_all, history, value)
                seen.add((history[0], "all", all(value in some for some in least)))
            values = values_of(history)
            for many in range(len(values) + 1):
                for some in combinations(values, many):
                    self.tells(some in cuts, is_cut, history, some)
            seen.add((history[0], len(cuts[0]), len(least) > 1))
        for sort in SORTS:
            self.assertTrue({((sort,), "all", True), ((sort,), "all", False), ((sort,), 0, False), ((sort,), 1, False)} <= seen)
        self.assertGreater(len({key for key in seen if key[1] != "all" and key[1] >= 2}), 6)
        self.assertGreater(len({key for key in seen if key[2] is True and key[1] != "all"}), 5)

    def test_without_a_value_it_is_as_if_there_were_none(self):
        # A set of which has told 0, a room in which nobody is.
        history = (("set",), behind([("has", 5, 1), ("has", 6, 0), ("join", 6, None), ("has", 6, 0)]))
        self.tells(((5, 6),), least_cuts, history)
        history = ((("room", 1),), behind([("enter", 5, None), ("enter", 6, None), ("enter", 7, None), ("leave", 7, None)]))
        self.tells(((5, 6), (5, 7), (6, 7)), least_cuts, history)
        self.tells(False, is_in_all, history, 7)

    def test_ten_calls(self):
        strange = (("queue",), together([("take", None, at) for at in range(10)]))
        self.tells((tuple(range(10)),), least_cuts, strange)
        self.tells(10, cut_size, strange)
        self.tells(True, is_in_all, strange, 9)
        self.tells(True, is_cut, strange, tuple(range(10)))
        for sort, word in ((("room", 4), "enter"), ("stack", "put"), ("heads", "put"), ("set", "join")):
            history = ((sort,), behind([(word, TOP - at, None) for at in range(10)]))
            self.tells(6 if sort == ("room", 4) else 0, cut_size, history)
        self.assertEqual(len(least_cuts(((("room", 4),), behind([("enter", at, None) for at in range(10)])))), 210)
        row = [("put", at, None) for at in range(5)] + [("take", None, at) for at in range(5)]
        for sort, rising, falling in (("queue", 0, 4), ("stack", 4, 0), ("heads", 0, 4)):
            self.tells(rising, cut_size, ((sort,), behind(row)))
            self.tells(falling, cut_size, ((sort,), behind(row[:5] + row[:4:-1])))

    def test_papers_and_cuts(self):
        # Each cut has a value of each paper; as many papers that have none in common are as many values.
        chance = random.Random(640)
        checked = 0
        for history in list(mixed(chance, ("queue",), 8, 4, 200)):
            paper = queue_paper(history)
            if paper[0] == "order":
                self.tells(((),), least_cuts, history)
                continue
            if paper[0] == "full":
                named = set(paper[2])
            else:
                named = {value_of(history[1][number]) for number in paper[1:] if number is not None}
            for some in least_cuts(history):
                self.assertTrue(named & set(some))
                checked += 1
        self.assertGreater(checked, 50)
        two = (("queue",), behind([("take", None, 5), ("put", 6, None), ("take", None, 6), ("take", None, 6)]))
        self.assertEqual((check_queue(two, ("unput", 0)), check_queue(two, ("twice", 2, 3))), ("unput", "twice"))
        self.tells(((5, 6),), least_cuts, two)
        self.assertEqual(check_cell(ODDS, ("odds", 0, 3, 1, 2)), "odds")


class TestRefusals(Checks, unittest.TestCase):
    def test_histories(self):
        good = ("cell", "queue", "stack", "heads", "set") + tuple(("room", size) for size in range(1, 10))
        for function, more in ((is_cut, (None,)), (least_cuts, ()), (cut_size, ()), (is_in_all, (None,))):
            self.refuses_histories(function, *more)
            self.refuses_sorts(function, good, *more)

    def test_what_is_no_cut(self):
        for sort in SORTS:
            for thing in ODD:
                self.tells(alike(thing, ()), is_cut, ((sort,), ()), thing)
        history = (("cell",), behind([("read", None, 0), ("write", 1, None)]))
        for thing in ODD:
            self.tells(any(alike(thing, cut) for cut in ((0,), (0, 1))), is_cut, history, thing)

    def test_values(self):
        history = (("set",), behind([("join", 0, None), ("has", 2, 1), ("drop", TOP, None)]))
        self.refuses_odd(BadValue, lambda thing: type(thing) is int and thing in (0, 2, TOP), is_in_all, (history,))
        self.refuses_odd(BadValue, lambda thing: False, is_in_all, ((("queue",), behind([("take", None, None)])),))
        self.tells(False, is_in_all, history, 0)
        self.tells(True, is_in_all, history, 2)


if __name__ == "__main__":
    unittest.main()
