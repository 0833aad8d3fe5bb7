"""Histories turned about: [59]."""

import random
import unittest

import oracle
from checks import Checks, alike
from samples import ALL_SORTS, Integer, Row, behind, every, grown, mixed, spoiled, together
from shortbars.aboutface import faced_about, is_closed, order_about
from shortbars.errors import BadHistory, BadOrder
from shortbars.places import how_many
from shortbars.runs import is_explanation
from shortbars.thin import plain_form

SORTS = ("queue", "stack", "counter", "tickets", "set", ("room", 1), ("room", 2), ("room", 9))
OTHER_WORD = {"put": "take", "take": "put", "enter": "leave", "leave": "enter", "join": "drop", "drop": "join"}
SOME = (("queue",), ((0, 3, 0, "put", 5, None), (1, 2, 0, "put", 6, None), (4, 6, 0, "take", None, 6), (5, 9, 0, "take", None, 5),
                     (7, 8, 0, "take", None, None)))


def closed_by_the_words(history):
    (sort,), calls = history
    if sort == "tickets":
        return all(call[5] < len(calls) for call in calls)
    if sort == "counter":
        return all(call[5] <= len([call for call in calls if call[3] == "add"]) for call in calls if call[3] == "count")
    if sort in ("cell", "heads"):
        return False
    came = [call[4] for call in calls if call[3] in ("put", "enter", "join")]
    gone = [call[4] if call[3] != "take" else call[5] for call in calls if call[3] in ("take", "leave", "drop")]
    gone = [value for value in gone if value is not None]
    return all(gone.count(value) == 1 for value in came) and all(value in came for value in gone)


def about_by_the_words(history):
    (sort,), calls = history
    top = max([0] + [call[1] for call in calls])
    turned = []
    for begin, end, thing, word, given, told in calls:
        if word == "draw":
            told = len(calls) - 1 - told
        elif word == "count":
            told = len([call for call in calls if call[3] == "add"]) - told
        elif word == "put":
            word, given, told = "take", None, given
        elif word == "take" and told is not None:
            word, given, told = "put", told, None
        elif word in ("enter", "leave", "join", "drop"):
            word = OTHER_WORD[word]
        turned.append((top - end, top - begin, thing, word, given, told))
    return (sort,), tuple(sorted(turned))


def backwards(history, row):
    """The numbers that calls in this turn have in the history turned about, the last one first."""
    ends = sorted([call[1] for call in history[1]], reverse=True)
    return tuple(ends.index(history[1][number][1]) for number in reversed(row))


def small(seed=700):
    for at, sort in enumerate(SORTS):
        chance = random.Random(seed + at)
        yield (sort,), ()
        yield from mixed(chance, (sort,), 6, 4 if sort in ("tickets", "counter") else 2, 90)
        for _ in range(120):
            history = closing(chance, sort)
            yield history if chance.randrange(3) else spoiled(chance, history)
    yield from every("set", (("join", 0, None), ("drop", 0, None), ("has", 0, 1), ("has", 0, 0)), 3)
    yield from list(every("queue", (("put", 0, None), ("take", None, 0), ("take", None, None)), 3))


def closing(chance, sort):
    """A closed history of up to 7 calls, perhaps an explained one."""
    if sort in ("tickets", "counter"):
        return grown(chance, (sort,), 6, 3, chance.choice((2, 9, 25)))
    comes, goes = {"queue": ("put", "take"), "stack": ("put", "take"), "set": ("join", "drop")}.get(sort, ("enter", "leave"))
    row = []
    inside = list(range(chance.randrange(1, 4)))
    for value in inside:
        row.insert(chance.randrange(len(row) + 1), (comes, value, None))
        place = chance.randrange(row.index((comes, value, None)) + 1, len(row) + 1)
        row.insert(place, (goes, None, value) if goes == "take" else (goes, value, None))
    if sort == "set" and chance.randrange(2):
        row.insert(chance.randrange(len(row) + 1), ("has", chance.choice(inside + [9]), chance.randrange(2)))
    if goes == "take" and chance.randrange(2):
        row.insert(chance.randrange(len(row) + 1), ("take", None, None))
    width = chance.choice((1, 15, 30))
    spans = sorted((10 * at - chance.randrange(width), 10 * at + 1 + chance.randrange(width), call) for at, call in enumerate(row))
    moments = sorted([span[0] for span in spans] + [span[1] + 0.5 for span in spans])
    if len(set(moments)) < len(moments):
        return closing(chance, sort)
    return (sort,), tuple((moments.index(begin), moments.index(end + 0.5), 0) + call for begin, end, call in spans)


class TestClosed(Checks, unittest.TestCase):
    def test_some(self):
        self.tells(True, is_closed, SOME)
        for calls, wanted in (
                ([("put", 5, None), ("take", None, 5)], True), ([("put", 5, None)], False), ([("take", None, 5)], False),
                ([("put", 5, None), ("take", None, 5), ("take", None, 5)], False), ([("take", None, None)], True),
                ([("take", None, 5), ("put", 5, None)], True), ([("put", 5, None), ("take", None, 6)], False),
                ([("put", 5, None), ("put", 6, None), ("take", None, 5), ("take", None, 5)], False)):
            for sort in ("queue", "stack"):
                self.tells(wanted, is_closed, ((sort,), behind(calls)))
            self.tells(False, is_closed, (("heads",), behind(calls)))
        for calls, wanted in (([("draw", None, 0)], True), ([("draw", None, 1)], False), ([("draw", None, 1)] * 2, True)):
            self.tells(wanted, is_closed, (("tickets",), behind(calls)))
        for calls, wanted in (([("count", None, 0)], True), ([("count", None, 1)], False), ([("add", None, None)], True),
                              ([("count", None, 1), ("add", None, None)], True)):
            self.tells(wanted, is_closed, (("counter",), behind(calls)))
        for calls, wanted in (([("has", 5, 1)], True), ([("has", 5, 0), ("join", 6, None)], False),
                              ([("join", 6, None), ("drop", 6, None), ("has", 5, 1)], True), ([("drop", 6, None)], False)):
            self.tells(wanted, is_closed, (("set",), behind(calls)))
        for calls, wanted in (([("enter", 6, None), ("leave", 6, None)], True), ([("leave", 6, None)], False),
                              ([("enter", 6, None)], False), ([("leave", 6, None), ("enter", 6, None)], True)):
            self.tells(wanted, is_closed, ((("room", 3),), behind(calls)))
        self.tells(False, is_closed, (("cell",), behind([("write", 5, None)])))

    def test_no_calls(self):
        for sort in ALL_SORTS:
            closed = sort not in ("cell", "heads")
            self.tells(closed, is_closed, ((sort,), ()))
            self.tells(((sort,), ()) if closed else None, faced_about, ((sort,), ()))
            if closed:
                self.tells((), order_about, ((sort,), ()), ())
            else:
                self.refuses(BadHistory, "closed", order_about, ((sort,), ()), ())


class TestAbout(Checks, unittest.TestCase):
    def test_some(self):
        self.tells((("queue",), ((0, 4, 0, "put", 5, None), (1, 2, 0, "take", None, None), (3, 5, 0, "put", 6, None),
                                 (6, 9, 0, "take", None, 5), (7, 8, 0, "take", None, 6))), faced_about, SOME)
        self.tells((1, 2, 0, 3, 4), order_about, SOME, (1, 0, 3, 2, 4))
        counter = (("counter",), ((2, 3, 0, "add", None, None), (4, 7, 0, "count", None, 1), (5, 6, 0, "add", None, None)))
        self.tells((("counter",), ((0, 3, 0, "count", None, 1), (1, 2, 0, "add", None, None), (4, 5, 0, "add", None, None))),
                   faced_about, counter)
        tickets = (("tickets",), ((0, 9, 0, "draw", None, 2), (1, 2, 0, "draw", None, 0), (3, 4, 0, "draw", None, 0)))
        self.tells((("tickets",), ((0, 9, 0, "draw", None, 0), (5, 6, 0, "draw", None, 2), (7, 8, 0, "draw", None, 2))),
                   faced_about, tickets)
        self.tells((0, 1, 2), order_about, tickets, (1, 2, 0))
        room = ((("room", 3),), behind([("enter", 5, None), ("leave", 5, None)]))
        self.tells(room, faced_about, room)
        some = (("set",), behind([("join", 5, None), ("has", 5, 1), ("drop", 5, None), ("has", 5, 0), ("has", 6, 0)]))
        turned = behind([("has", 6, 0), ("has", 5, 0), ("join", 5, None), ("has", 5, 1), ("drop", 5, None)])
        self.tells((("set",), turned), faced_about, some)
        self.tells(None, faced_about, (("queue",), behind([("put", 5, None)])))
        self.assertTrue(alike(faced_about((Row(("queue",)), Row(Row(call) for call in SOME[1]))), faced_about(SOME)))
        self.tells((1, 2, 0, 3, 4), order_about, SOME, Row((Integer(1), 0, 3, 2, 4)))

    def test_against_the_words(self):
        told = set()
        for history in small():
            closed = closed_by_the_words(history)
            self.tells(closed, is_closed, history)
            self.tells(about_by_the_words(history) if closed else None, faced_about, history)
            told.add((history[0], closed))
        self.assertTrue({((sort,), closed) for sort in SORTS for closed in (True, False)} <= told)

    def test_back_again(self):
        for history in small(720):
            turned = faced_about(history)
            if turned is not None:
                self.assertTrue(is_closed(turned))
                low = min([call[0] for call in history[1]], default=0)
                first = (history[0], tuple((call[0] - low, call[1] - low) + call[2:] for call in history[1]))
                self.tells(first, faced_about, turned)
                self.assertEqual(plain_form(faced_about(turned)), plain_form(history))

    def test_all_orders(self):
        told = set()
        for history in list(small(740))[::2]:
            turned = faced_about(history)
            if turned is None:
                for row in oracle.orders(history)[:3]:
                    self.refuses(BadHistory, "closed", order_about, history, row)
                continue
            orders = oracle.orders(history)
            found = [order_about(history, row) for row in orders[:200]]
            self.assertEqual(found, [backwards(history, row) for row in orders[:200]])
            if len(orders) <= 200:
                self.assertEqual(sorted(found), oracle.orders(turned))
            for row, other in zip(orders, found):
                explained = is_explanation(history, row)
                self.assertEqual(is_explanation(turned, other), explained)
                self.tells(row, order_about, turned, other)
                told.add((history[0], explained))
            self.assertEqual(how_many(turned), how_many(history))
        self.assertTrue({((sort,), explained) for sort in SORTS for explained in (True, False)} <= told)

    def test_ten_calls(self):
        row = [("put", at, None) for at in range(5)] + [("take", None, at) for at in range(5)]
        queue = (("queue",), behind(row))
        about = behind([("put", 4 - at, None) for at in range(5)] + [("take", None, 4 - at) for at in range(5)])
        self.tells((("queue",), about), faced_about, queue)
        self.tells(tuple(range(10)), order_about, queue, tuple(range(10)))
        queue = (("queue",), together(row))
        self.tells(tuple(range(10)), order_about, queue, tuple(range(10)))
        self.tells(tuple(range(9, -1, -1)), order_about, queue, tuple(range(9, -1, -1)))


class TestRefusals(Checks, unittest.TestCase):
    def test_histories(self):
        for function, more in ((is_closed, ()), (faced_about, ()), (order_about, (None,))):
            self.refuses_histories(function, *more)
            self.refuses_sorts(function, ALL_SORTS, *more)

    def test_orders(self):
        self.refuses_odd(BadOrder, lambda thing: alike(thing, ()), order_about, ((("queue",), ()),))
        one = (("set",), behind([("has", 1, 0)]))
        self.refuses_odd(BadOrder, lambda thing: alike(thing, (0,)), order_about, (one,))
        for row in ((1, 0), (0,), (0, 1, 2), [0, 1], (0, 0), (False, True), (0, True), (0, None), None, "01"):
            for calls in ([("put", 5, None), ("take", None, 5)], [("put", 5, None), ("put", 6, None)]):
                self.refuses(BadOrder, row, order_about, (("queue",), behind(calls)), row)
        self.refuses(BadHistory, "closed", order_about, (("queue",), behind([("put", 5, None), ("put", 6, None)])), (0, 1))
        self.refuses(BadHistory, "closed", order_about, (("heads",), behind([("put", 5, None), ("take", None, 5)])), (0, 1))


if __name__ == "__main__":
    unittest.main()
