"""One sort read as another, and what is apart: [60], [62]."""

import random
import unittest

import oracle
from checks import Checks, alike
from samples import ALL_SORTS, Integer, Row, Same, Text, behind, every, mixed, together
from shortbars.errors import BadSort
from shortbars.readas import is_apart, read_as

LINES = ("queue", "stack", "heads")
ROOMS = tuple(("room", size) for size in range(1, 10))
CALLS = [("put", 5, None), ("put", 6, None), ("take", None, 6), ("take", None, 5)]


def as_words(history, sort):
    """By the words: None where none is told of."""
    (own,), calls = history
    room = isinstance(sort, tuple)
    if own in LINES and sort in LINES:
        return (sort,), calls
    if own in LINES and room:
        taken = [call[5] for call in calls if call[3] == "take"]
        if None in taken or any(taken.count(value) > 1 for value in taken):
            return None
        return (sort,), tuple(call[:3] + (("enter", call[4], None) if call[3] == "put" else ("leave", call[5], None))
                              for call in calls)
    if own == "set" and room and not any(call[3] == "has" for call in calls):
        return (sort,), tuple(call[:3] + ({"join": "enter", "drop": "leave"}[call[3]],) + call[4:] for call in calls)
    if isinstance(own, tuple) and sort == "set":
        return (sort,), tuple(call[:3] + ({"enter": "join", "leave": "drop"}[call[3]],) + call[4:] for call in calls)
    return None


def small(seed=760):
    for at, sort in enumerate(ALL_SORTS):
        chance = random.Random(seed + at)
        yield (sort,), ()
        yield from mixed(chance, (sort,), 7, 5, 40)
    yield from (history for history in every("set", (("join", 0, None), ("drop", 0, None), ("join", 1, None), ("drop", 1, None)), 3))


def lines(seed=780):
    """Queues, many of which are apart."""
    words = (("put", 0, None), ("take", None, 0), ("put", 1, None), ("take", None, 1), ("take", None, None), ("take", None, 2))
    for many in (0, 1, 2, 3):
        yield from every("queue", words, many)
    chance = random.Random(seed)
    for _ in range(300):
        row, moment = [], 0
        for value in chance.sample(range(9), chance.randrange(1, 4)):
            spans = [(0, 1, 2, 3), (0, 2, 1, 3), (0, 3, 1, 2), (1, 2, 0, 3), (2, 3, 0, 1)][chance.randrange(5)]
            row += [(moment + spans[0], moment + spans[1], 0, "put", value, None),
                    (moment + spans[2], moment + spans[3], 0, "take", None, value)]
            moment += 3 if chance.randrange(6) == 0 else 4
        if chance.randrange(3) == 0:
            row.append((moment, moment + 1, 0, "put", 9, None))
        row.sort()
        moments = [moment for call in row for moment in call[:2]]
        if len(set(moments)) == len(moments):
            yield ("queue",), tuple(row)


def apart_by_the_words(history):
    (sort,), calls = history
    if sort not in LINES:
        return False
    spans = []
    values = [call[4] for call in calls if call[3] == "put"]
    for call in calls:
        if call[3] == "take" and (call[5] is None or call[5] not in values):
            return False
    for value in values:
        own = [call for call in calls if value in (call[4], call[5])]
        if len(own) > 2:
            return False
        end = max(call[1] for call in own) if len(own) == 2 else 10 ** 9
        spans.append((min(call[0] for call in own), end))
    return not any(one[0] <= two[1] and two[0] <= one[1] for at, one in enumerate(spans) for two in spans[at + 1:])


class TestReadAs(Checks, unittest.TestCase):
    def test_some(self):
        queue = (("queue",), behind(CALLS))
        for sort in LINES:
            self.tells(((sort,), behind(CALLS)), read_as, queue, sort)
        steps = [("enter", 5, None), ("enter", 6, None), ("leave", 6, None), ("leave", 5, None)]
        joins = [("join", 5, None), ("join", 6, None), ("drop", 6, None), ("drop", 5, None)]
        room, joined = (("room", 3),), (("set",), behind(joins))
        self.tells((room, behind(steps)), read_as, queue, ("room", 3))
        self.tells((room, behind(steps)), read_as, joined, ("room", 3))
        self.tells(joined, read_as, (room, behind(steps)), "set")
        for sort in ALL_SORTS:
            self.tells(None, read_as, (("cell",), ()), sort)
            self.tells(None, read_as, (("counter",), ()), sort)
            self.tells(None, read_as, (("tickets",), ()), sort)
            for size in (1, 9):
                if sort != "set":
                    self.tells(None, read_as, ((("room", size),), ()), sort)
            if sort not in ROOMS:
                self.tells(None, read_as, joined, sort)
        self.tells((("room", 2),), lambda thing: read_as(thing, Row((Text("room"), Integer(2))))[0], queue)
        self.assertTrue(alike(read_as(queue, Text("stack"))[0], ("stack",)))

    def test_what_has_no_room(self):
        for sort in LINES:
            for calls in ([("take", None, None)], CALLS + [("take", None, 5)], [("take", None, 5), ("take", None, 5)],
                          CALLS + [("take", None, None)]):
                for size in (1, 9):
                    self.tells(None, read_as, ((sort,), behind(calls)), ("room", size))
                self.tells((("heads",), behind(calls)), read_as, ((sort,), behind(calls)), "heads")
            # A take of what nobody put goes as well.
            self.tells(((("room", 1),), behind([("leave", 5, None)])), read_as, ((sort,), behind([("take", None, 5)])), ("room", 1))
        for calls in ([("has", 5, 1)], [("join", 5, None), ("has", 6, 0)]):
            for sort in ALL_SORTS:
                self.tells(None, read_as, (("set",), behind(calls)), sort)

    def test_against_the_words(self):
        told = set()
        for history in small():
            for sort in ALL_SORTS:
                wanted = as_words(history, sort)
                self.tells(wanted, read_as, history, sort)
                told.add((isinstance(history[0][0], tuple) or history[0][0], isinstance(sort, tuple) or sort, wanted is None))
        for one, two in [(one, two) for one in LINES for two in LINES] + [("set", True), (True, "set")] + [(one, True) for one in LINES]:
            self.assertIn((one, two, False), told)
        for one in LINES + ("set",):
            self.assertIn((one, True, True), told)

    def test_room_and_set(self):
        # Where there is room for all of them, one is explained exactly if the other one is.
        told = set()
        for history in small(800):
            if history[0][0] not in ("set",) + ROOMS:
                continue
            many = max(1, len({call[4] for call in history[1]}))
            sorts = [("room", size) for size in range(many, 10)] if history[0][0] == "set" else ["set"]
            explained = oracle.explanations(history) != []
            for sort in sorts[:2]:
                other = read_as(history, sort)
                if other is not None and (sort != "set" or history[0][0][1] >= many):
                    self.assertEqual(oracle.explanations(other) != [], explained)
                    told.add((sort == "set", explained))
        self.assertEqual(len(told), 4)

    def test_refusals(self):
        self.refuses_histories(read_as, None)
        self.refuses_sorts(read_as, ALL_SORTS, None)
        for sort in ALL_SORTS:
            self.refuses_odd(BadSort, lambda thing: any(alike(thing, right) for right in ALL_SORTS), read_as, (((sort,), ()),))
        for sort in ("room", ("room", 0), ("room", 10), ("room", True), ["room", 1], ("room",), "Queue", ("queue",), Same(), None,
                     ("room", 1, 1), b"queue", (Same(), 1), ("room", Same()), ("cell", 1)):
            self.refuses(BadSort, sort, read_as, (("queue",), behind(CALLS)), sort)
            self.refuses(BadSort, sort, read_as, (("cell",), ()), sort)


class TestApart(Checks, unittest.TestCase):
    def test_some(self):
        row = [("put", 5, None), ("take", None, 5), ("put", 6, None), ("take", None, 6)]
        for sort in LINES:
            self.tells(True, is_apart, ((sort,), ()))
            self.tells(True, is_apart, ((sort,), behind(row)))
            self.tells(True, is_apart, ((sort,), behind(row[:3])))
            self.tells(True, is_apart, ((sort,), behind([row[1], row[0], row[3], row[2]])))
            self.tells(True, is_apart, ((sort,), together(row[:2])))
            # One that stays in, with another one behind.
            self.tells(False, is_apart, ((sort,), behind([row[0], row[2]])))
            self.tells(False, is_apart, ((sort,), behind([row[0], row[2], row[3]])))
            self.tells(True, is_apart, ((sort,), behind([row[2], row[3], row[0]])))
            self.tells(False, is_apart, ((sort,), behind(CALLS)))
            self.tells(False, is_apart, ((sort,), together(row)))
            for more in (("take", None, None), ("take", None, 6), ("take", None, 9)):
                self.tells(False, is_apart, ((sort,), behind(row + [more])))
        for sort in ALL_SORTS:
            if sort not in LINES:
                self.tells(False, is_apart, ((sort,), ()))
        self.tells(False, is_apart, ((("room", 1),), behind([("enter", 5, None), ("leave", 5, None)])))

    def test_against_the_words(self):
        told = {True: 0, False: 0}
        for history in list(lines()) + list(small(820)):
            wanted = apart_by_the_words(history)
            self.tells(wanted, is_apart, history)
            told[wanted] += len(history[1]) > 2
        self.assertGreater(min(told.values()), 50)

    def test_apart_ones_are_explained_alike(self):
        told = set()
        for history in lines(830):
            if not is_apart(history):
                continue
            puts = {call[4]: call for call in history[1] if call[3] == "put"}
            wanted = not any(call[3] == "take" and oracle.ahead(call, puts[call[5]]) for call in history[1])
            told.add((wanted, len(history[1]) > 3))
            for sort in LINES + (("room", 1), ("room", 2), ("room", 9)):
                self.assertEqual(oracle.explanations(read_as(history, sort)) != [], wanted, (history, sort))
        self.assertEqual(len(told), 4)

    def test_refusals(self):
        self.refuses_histories(is_apart)
        self.refuses_sorts(is_apart, ALL_SORTS)


if __name__ == "__main__":
    unittest.main()
