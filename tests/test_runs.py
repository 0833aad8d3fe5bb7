"""Plain things, one call behind the other, and the explanations by them: [3], [4]."""

import random
import unittest
from itertools import permutations

import oracle
from checks import Checks
from samples import ALL_SORTS, ODD, Integer, Row, Text, behind, mixed, together
from shortbars.errors import BadOrder
from shortbars.runs import is_explanation, states_by, told_by


def story(sort, *calls):
    """The history of these calls of one thing, each ahead of the next one."""
    return (sort,), behind(calls)


class TestEachThing(Checks, unittest.TestCase):
    def told(self, sort, *steps):
        """Steps (WORD, GIVEN, what it goes and tells): told_by tells just these, whatever the TOLD."""
        row = tuple(range(len(steps)))
        for other in (True, False):
            calls = [(word, given, self.some_told(word, pair, other)) for word, given, pair in steps]
            self.tells(tuple(pair for _, _, pair in steps), told_by, story(sort, *calls), row)

    def some_told(self, word, pair, other):
        if word in ("read", "take"):
            return 99 if other else pair[1]
        if word == "has":
            return 1 - pair[1] if other else pair[1]
        if word in ("count", "draw"):
            return 98 if other else pair[1]
        return None

    def test_cell(self):
        self.told("cell", ("read", None, (True, None)), ("write", 5, (True, None)), ("read", None, (True, 5)),
                  ("read", None, (True, 5)), ("write", 0, (True, None)), ("read", None, (True, 0)))

    def test_queue(self):
        self.told("queue", ("take", None, (True, None)), ("put", 5, (True, None)), ("put", 3, (True, None)),
                  ("put", 4, (True, None)), ("take", None, (True, 5)), ("take", None, (True, 3)),
                  ("take", None, (True, 4)), ("take", None, (True, None)))

    def test_stack(self):
        self.told("stack", ("take", None, (True, None)), ("put", 4, (True, None)), ("put", 5, (True, None)),
                  ("put", 3, (True, None)), ("take", None, (True, 3)), ("take", None, (True, 5)),
                  ("take", None, (True, 4)), ("take", None, (True, None)))

    def test_heads(self):
        self.told("heads", ("take", None, (True, None)), ("put", 4, (True, None)), ("put", 5, (True, None)),
                  ("put", 3, (True, None)), ("take", None, (True, 3)), ("take", None, (True, 4)),
                  ("take", None, (True, 5)), ("take", None, (True, None)))

    def test_room(self):
        self.told(("room", 1), ("enter", 7, (True, None)), ("leave", 7, (True, None)), ("enter", 8, (True, None)),
                  ("enter", 9, (False, None)))
        self.told(("room", 2), ("enter", 7, (True, None)), ("enter", 8, (True, None)), ("enter", 9, (False, None)))
        self.told(("room", 2), ("leave", 7, (False, None)))
        self.told(("room", 2), ("enter", 7, (True, None)), ("leave", 8, (False, None)))
        self.told(("room", 9), *[("enter", at, (True, None)) for at in range(9)], ("enter", 9, (False, None)))

    def test_counter(self):
        self.told("counter", ("count", None, (True, 0)), ("add", None, (True, None)), ("count", None, (True, 1)),
                  ("count", None, (True, 1)), ("add", None, (True, None)), ("add", None, (True, None)),
                  ("count", None, (True, 3)))

    def test_tickets(self):
        self.told("tickets", ("draw", None, (True, 0)), ("draw", None, (True, 1)), ("draw", None, (True, 2)))

    def test_set(self):
        self.told("set", ("has", 5, (True, 0)), ("join", 5, (True, None)), ("has", 5, (True, 1)), ("has", 4, (True, 0)),
                  ("join", 4, (True, None)), ("drop", 5, (True, None)), ("has", 5, (True, 0)), ("has", 4, (True, 1)))
        self.told("set", ("drop", 5, (False, None)))
        self.told("set", ("join", 4, (True, None)), ("drop", 5, (False, None)))
        calls = [("join", 5, None), ("drop", 5, None), ("has", 5, 0)]
        self.tells(((True, None), (True, None), (True, 0)), told_by, story("set", *calls), (0, 1, 2))

    def test_who_is_in_cannot_come_in_again(self):
        # A value comes in once only, but what was dropped is out, and what is in stands for itself.
        history = ((("room", 2),), together([("enter", 5, None), ("leave", 5, None)]))
        self.tells(((True, None), (True, None)), told_by, history, (0, 1))
        self.tells(((False, None),), told_by, history, (1, 0))
        history = (("set",), together([("join", 5, None), ("drop", 5, None), ("has", 5, 1)]))
        self.tells(((True, None), (True, 1), (True, None)), told_by, history, (0, 2, 1))
        self.tells(((True, 0), (False, None)), told_by, history, (2, 1, 0))

    def test_the_first_that_cannot_go_is_the_last_one_told(self):
        history = (("cell", ("room", 1)), ((0, 1, 1, "enter", 3, None), (2, 3, 1, "enter", 4, None),
                                           (4, 5, 0, "read", None, 7)))
        self.tells(((True, None), (False, None)), told_by, history, (0, 1, 2))

    def test_no_calls(self):
        for sort in ALL_SORTS:
            self.tells((), told_by, ((sort,), ()), ())

    def test_things_are_apart(self):
        history = (("stack", "queue"), ((0, 1, 0, "put", 1, None), (2, 3, 1, "put", 1, None), (4, 5, 0, "put", 2, None),
                                        (6, 7, 1, "put", 2, None), (8, 9, 0, "take", None, 0), (10, 11, 1, "take", None, 0)))
        self.tells(((True, None),) * 4 + ((True, 2), (True, 1)), told_by, history, tuple(range(6)))


class TestAgainstTheOracle(Checks, unittest.TestCase):
    SORTS = ("cell", "queue", "stack", "heads", "counter", "tickets", "set", ("room", 1), ("room", 2), ("room", 9))

    def test_each_sort(self):
        chance = random.Random(11)
        for sort in self.SORTS:
            for history in mixed(chance, (sort,), 5, 3, 90):
                self.compare(history)

    def test_several_things(self):
        chance = random.Random(12)
        for _ in range(30):
            sorts = tuple(chance.choice(self.SORTS) for _ in range(chance.randrange(1, 5)))
            for history in mixed(chance, sorts, 5, 3, 6):
                self.compare(history)

    def compare(self, history):
        right = oracle.orders(history)
        explained = oracle.explanations(history)
        for row in permutations(range(len(history[1]))):
            self.tells(row in explained, is_explanation, history, row)
            if row not in right:
                self.refuses(BadOrder, row, told_by, history, row)
            else:
                self.tells(oracle.run(history, row)[0], told_by, history, row)
            if row in explained:
                self.tells(oracle.run(history, row)[1], states_by, history, row)
            else:
                self.refuses(BadOrder, row, states_by, history, row)


class TestStates(Checks, unittest.TestCase):
    def test_each_sort_without_calls(self):
        for sort in ALL_SORTS:
            state = {"cell": None, "counter": 0, "tickets": 0}.get(sort, ())
            self.tells((state,), states_by, ((sort,), ()), ())
        self.tells((None, (), 0, ()), states_by, (("cell", "set", "tickets", ("room", 1)), ()), ())

    def test_each_sort(self):
        puts = [("put", 5, None), ("put", 3, None), ("put", 4, None)]
        self.tells(((5, 3, 4),), states_by, story("queue", *puts), (0, 1, 2))
        self.tells(((5, 3, 4),), states_by, story("stack", *puts), (0, 1, 2))
        self.tells(((3, 4, 5),), states_by, story("heads", *puts), (0, 1, 2))
        self.tells(((3, 4),), states_by, story("queue", *puts, ("take", None, 5)), (0, 1, 2, 3))
        self.tells(((5, 3),), states_by, story("stack", *puts, ("take", None, 4)), (0, 1, 2, 3))
        self.tells(((4, 5),), states_by, story("heads", *puts, ("take", None, 3)), (0, 1, 2, 3))
        enters = [("enter", 5, None), ("enter", 3, None), ("leave", 5, None), ("enter", 1, None)]
        self.tells(((1, 3),), states_by, story(("room", 2), *enters), (0, 1, 2, 3))
        joins = [("join", 5, None), ("join", 3, None), ("drop", 5, None), ("join", 1, None), ("has", 9, 0)]
        self.tells(((1, 3),), states_by, story("set", *joins), (0, 1, 2, 3, 4))
        self.tells((2,), states_by, story("counter", ("add", None, None), ("add", None, None)), (0, 1))
        self.tells((2,), states_by, story("tickets", ("draw", None, 0), ("draw", None, 1)), (0, 1))
        self.tells((0,), states_by, story("cell", ("write", 7, None), ("write", 0, None)), (0, 1))

    def test_of_what_is_no_explanation_it_tells_nothing(self):
        history = story("queue", ("put", 5, None), ("take", None, None))
        self.refuses(BadOrder, (0, 1), states_by, history, (0, 1))
        self.tells(((True, None), (True, 5)), told_by, history, (0, 1))
        history = story("set", ("drop", 5, None))
        self.refuses(BadOrder, (0,), states_by, history, (0,))
        # 0 is told, and not None; 1, and not 0.
        self.tells(False, is_explanation, story("cell", ("read", None, 0)), (0,))
        self.tells(False, is_explanation, story("cell", ("write", 0, None), ("read", None, None)), (0, 1))
        self.tells(False, is_explanation, story("counter", ("count", None, 1)), (0,))


class TestRefusals(Checks, unittest.TestCase):
    ONE = story("cell", ("read", None, None))
    TWO = (("queue",), together([("put", 1, None), ("put", 2, None)]))

    def is_right(self, thing, many):
        return type(thing) is tuple and len(thing) == many and all(type(part) is int for part in thing) \
            and sorted(thing) == list(range(many))

    def test_orders(self):
        for function in (told_by, states_by):
            self.refuses_histories(function, None)
            self.refuses_odd(BadOrder, lambda thing: self.is_right(thing, 1), function, (self.ONE,))
            self.refuses_odd(BadOrder, lambda thing: self.is_right(thing, 2), function, (self.TWO,))
            for order in ([0, 1], (0,), (0, 0), (0, 2), (0, 1, 2), (False, True), (1,), (0, True)):
                self.refuses(BadOrder, order, function, self.TWO, order)

    def test_is_explanation_takes_any_value(self):
        self.refuses_histories(is_explanation, None)
        for thing in ODD:
            self.tells(self.is_right(thing, 1), is_explanation, self.ONE, thing)
            self.tells(self.is_right(thing, 2), is_explanation, self.TWO, thing)
            self.tells(type(thing) is tuple and len(thing) == 0, is_explanation, (("cell",), ()), thing)

    def test_what_is_told_is_plain(self):
        own = Row((Row((Text("queue"),)), Row((Row((0, 1, 0, Text("put"), Integer(4), None)),))))
        self.tells(((4,),), states_by, own, Row((Integer(0),)))
        self.tells(((True, None),), told_by, own, Row((Integer(0),)))

    def test_ten_calls(self):
        history = story("stack", *[("put", at, None) for at in range(10)])
        self.tells((tuple(range(10)),), states_by, history, tuple(range(10)))
        self.tells(((True, None),) * 10, told_by, history, tuple(range(10)))
        self.tells(True, is_explanation, history, tuple(range(10)))


if __name__ == "__main__":
    unittest.main()
