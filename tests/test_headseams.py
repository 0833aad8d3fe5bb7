"""Heads by rank as stacks and as queues: [30]."""

import random
import unittest

import oracle
from checks import Checks
from oracle import ahead
from queuefacts import put_of, values_put
from samples import TOP, Text, behind, every, matched, mixed, together
from shortbars.errors import BadHistory, BadSort
from shortbars.heads import is_explained_heads
from shortbars.headseams import as_sort, puts_fall, puts_rise
from shortbars.stacks import is_explained_stack

EMPTY = (("heads",), ())
WORDS = (("put", 0, None), ("put", 1, None), ("take", None, 0), ("take", None, 1), ("take", None, None))
SORTS = ("queue", "stack", "heads")


def fall(history):
    values = values_put(history)
    return all(ahead(put_of(history, far), put_of(history, value)) for value in values for far in values if value < far)


def rise(history):
    values = values_put(history)
    return all(ahead(put_of(history, value), put_of(history, far)) for value in values for far in values if value < far)


def named_in_turn(history, falls):
    """The history with values that fall, or rise, in the turn in which their puts begin; of all takes, too."""
    calls = history[1]
    values = [call[4] for call in calls if call[3] == "put"]
    values += sorted({call[5] for call in calls} - set(values) - {None})
    places = range(len(values), 0, -1) if falls else range(len(values))
    names = dict(zip(values, places))
    names[None] = None
    return history[0], tuple(call[:4] + (names[call[4]], names[call[5]]) for call in calls)


def small():
    for many in (1, 2, 3):
        yield from every("heads", WORDS, many)
    yield from list(every("heads", WORDS, 4))[::29]
    yield from mixed(random.Random(181), ("heads",), 7, 4, 600)
    yield from mixed(random.Random(182), ("stack",), 7, 4, 600)
    yield from mixed(random.Random(183), ("queue",), 7, 4, 600)
    yield from matched(random.Random(184), "heads", 7, 900)


class TestFallAndRise(Checks, unittest.TestCase):
    def test_some(self):
        for puts, falls, rises in (((), True, True), ((5,), True, True), ((5, 7), False, True), ((7, 5), True, False),
                                   ((7, 5, 3), True, False), ((5, 7, 3), False, False), ((3, 5, 7), False, True)):
            history = (("heads",), behind([("put", value, None) for value in puts] + [("take", None, 9)]))
            self.tells(falls, puts_fall, history)
            self.tells(rises, puts_rise, history)
        history = (("heads",), together([("put", 5, None), ("put", 7, None)]))
        self.tells(False, puts_fall, history)
        self.tells(False, puts_rise, history)
        # Takes make no difference.
        history = (("heads",), behind([("take", None, 3), ("take", None, 2)]))
        self.tells(True, puts_fall, history)
        self.tells(True, puts_rise, history)

    def test_ten_calls(self):
        rows = [("put", at, None) for at in range(10)]
        self.tells(True, puts_rise, (("heads",), behind(rows)))
        self.tells(False, puts_fall, (("heads",), behind(rows)))
        self.tells(True, puts_fall, (("heads",), behind(rows[::-1])))
        self.tells(False, puts_rise, (("heads",), behind(rows[::-1])))

    def test_against_the_words(self):
        seen = set()
        for history in small():
            history = (("heads",), history[1])
            self.tells(fall(history), puts_fall, history)
            self.tells(rise(history), puts_rise, history)
            seen.add((fall(history), rise(history)))
        self.assertEqual(len(seen), 4)


class TestAsSort(Checks, unittest.TestCase):
    def test_some(self):
        calls = behind([("put", 5, None), ("take", None, 5), ("take", None, 6)])
        for one in SORTS:
            for two in SORTS:
                self.tells(((two,), calls), as_sort, ((one,), calls), two)
                self.tells(((two,), ()), as_sort, ((one,), ()), two)
        self.tells((("stack",), calls), as_sort, (("heads",), calls), Text("stack"))

    def test_the_same_explanations(self):
        falling, rising = set(), set()
        for history in small():
            for falls, sort, seen in ((True, "stack", falling), (False, "queue", rising)):
                named = named_in_turn((("heads",), history[1]), falls)
                if (puts_fall if falls else puts_rise)(named):
                    rows = oracle.explanations(named)
                    self.assertEqual(rows, oracle.explanations(as_sort(named, sort)), named)
                    seen.add((len(values_put(named)), rows == []))
        for seen in (falling, rising):
            self.assertTrue({(many, one) for many in (2, 3) for one in (True, False)} <= seen)

    def test_ten_calls_as_a_stack(self):
        seen = set()
        for history in list(matched(random.Random(185), "heads", 10, 1500)) + list(mixed(random.Random(186), ("stack",), 10, 5, 600)):
            named = named_in_turn((("heads",), history[1]), True)
            if puts_fall(named):
                wanted = is_explained_stack(as_sort(named, "stack"))
                self.tells(wanted, is_explained_heads, named)
                seen.add((len(history[1]) > 7, wanted))
        self.assertEqual(len(seen), 4)

    def test_a_thing_that_tells_the_greatest_one(self):
        # All values taken from 1,000,000: what is told of the least of what is in is told of the greatest one.
        for history in list(small())[::5]:
            calls = history[1]
            turned = tuple(call[:4] + tuple(None if part is None else TOP - part for part in call[4:]) for call in calls)
            rows = [row for row in oracle.orders((("heads",), turned)) if self.goes(turned, row)]
            self.assertEqual(rows, oracle.explanations((("heads",), calls)))

    def goes(self, calls, row):
        """Whether all is told by a thing that tells the greatest one of what is in."""
        inside = []
        for number in row:
            word, given, told = calls[number][3:]
            if word == "put":
                inside.append(given)
            elif told != max(inside, default=None):
                return False
            elif inside:
                inside.remove(told)
        return True


class TestRefusals(Checks, unittest.TestCase):
    def test_histories(self):
        for function, more, good in ((puts_fall, (), ("heads",)), (puts_rise, (), ("heads",)), (as_sort, (None,), SORTS)):
            self.refuses_histories(function, *more)
            self.refuses_sorts(function, good, *more)
        for sort in SORTS[:2]:
            self.refuses(BadHistory, "sort", puts_fall, ((sort,), ()))
            self.refuses(BadHistory, "sort", puts_rise, ((sort,), ()))

    def test_sorts(self):
        for sort in SORTS:
            history = ((sort,), behind([("put", 1, None)]))
            self.refuses_odd(BadSort, lambda thing: False, as_sort, (history,))
            for thing in ("cell", "set", "counter", "tickets", "room", ("room", 1), ("stack",), ["stack"], "Stack", "stack ",
                          b"stack", ("queue", "stack")):
                self.refuses(BadSort, thing, as_sort, history, thing)


if __name__ == "__main__":
    unittest.main()
