"""Several things at once: [43], [44]."""

import random
import unittest
from itertools import product

import oracle
from checks import Checks, alike
from paperchecks import is_explanation
from samples import Integer, Row, behind, mixed, together
from shortbars.errors import BadOrder, BadParts, TooMany
from shortbars.together import first_parts, is_each_explained, laid, parts_by

MIXES = (("cell", "queue"), ("stack", "heads", "set"), (("room", 1), "counter"), ("tickets", "queue", "set", "cell"),
         ("heads",), ("queue", "queue"))
# Two queues; each is explained, the first one in two ways.
TWO = (("queue", "queue"), (
    (0, 5, 0, "put", 1, None), (1, 4, 1, "put", 1, None), (2, 6, 0, "put", 2, None), (3, 8, 1, "take", None, None),
    (7, 9, 0, "take", None, 2)))


def small():
    for at, sorts in enumerate(MIXES):
        yield from mixed(random.Random(261 + at), sorts, 6, 3, 120)
        yield sorts, ()


def alone(history, thing):
    """The numbers of the calls of a thing, and its history."""
    numbers = [number for number, call in enumerate(history[1]) if call[2] == thing]
    calls = tuple(history[1][number][:2] + (0,) + history[1][number][3:] for number in numbers)
    return numbers, ((history[0][thing],), calls)


def rows_of_each(history):
    return [oracle.explanations(alone(history, thing)[1]) for thing in range(len(history[0]))]


def parts_of(history, row):
    """The parts that a row has: of each thing its calls in that turn, by the numbers that they have there."""
    parts = []
    for thing in range(len(history[0])):
        numbers = alone(history, thing)[0]
        parts.append(tuple(numbers.index(number) for number in row if number in numbers))
    return tuple(parts)


def laid_by_the_words(history, parts):
    calls = history[1]
    rows = [[alone(history, thing)[0][number] for number in part] for thing, part in enumerate(parts)]
    put = []
    while len(put) < len(calls):
        for number in range(len(calls)):
            row = rows[calls[number][2]]
            waits = [far for far in range(len(calls)) if oracle.ahead(calls[far], calls[number])] + row[:row.index(number)]
            if number not in put and all(far in put for far in waits):
                put.append(number)
                break
    return tuple(put)


class TestEachExplained(Checks, unittest.TestCase):
    def test_some(self):
        self.tells(True, is_each_explained, TWO)
        self.tells(((1, 0, 2), (1, 0)), first_parts, TWO)
        spoilt = (TWO[0], TWO[1][:4] + ((7, 9, 0, "take", None, 3),))
        self.tells(False, is_each_explained, spoilt)
        self.tells(None, first_parts, spoilt)

    def test_things_without_calls(self):
        for sorts in MIXES + (("cell",) * 4, (("room", 9),)):
            self.tells(True, is_each_explained, (sorts, ()))
            self.tells(((),) * len(sorts), first_parts, (sorts, ()))
            self.tells((), laid, (sorts, ()), ((),) * len(sorts))
            self.tells(((),) * len(sorts), parts_by, (sorts, ()), ())
        history = (("set", "queue", "cell"), ((0, 1, 1, "take", None, None), (2, 3, 1, "put", 1, None)))
        self.tells(((), (0, 1), ()), first_parts, history)
        self.tells((0, 1), laid, history, ((), (0, 1), ()))
        self.tells(((), (0, 1), ()), parts_by, history, (0, 1))

    def test_explained_just_if_each_thing_is(self):
        told = set()
        for history in small():
            each = rows_of_each(history)
            wanted = oracle.explanations(history) != []
            self.assertEqual(wanted, all(rows != [] for rows in each))
            self.tells(wanted, is_each_explained, history)
            self.tells(tuple(rows[0] for rows in each) if wanted else None, first_parts, history)
            told.add((wanted, len(history[0])))
        self.assertEqual(len(told), 8)

    def test_seven_calls_of_one_thing_and_eight(self):
        rows = [("put", at, None) for at in range(8)]
        seven, eight = together(rows[:7]), together(rows)
        self.tells(True, is_each_explained, (("queue",), seven))
        self.tells((tuple(range(7)),), first_parts, (("queue",), seven))
        self.tells((tuple(range(7)), ()), first_parts, (("queue", "cell"), seven))
        for function in (is_each_explained, first_parts):
            for sorts in (("queue",), ("queue", "cell")):
                self.refuses(TooMany, 7, function, (sorts, eight))
            # Whatever else there is: another thing that is explained by nothing.
            wrong = (("cell", "queue"), ((0, 1, 0, "read", None, 5),)
                     + tuple((call[0] + 2, call[1] + 2, 1) + call[3:] for call in eight))
            self.refuses(TooMany, 7, function, wrong)
            swapped = (("queue", "cell"), tuple(call[:2] + (1 - call[2],) + call[3:] for call in wrong[1]))
            self.refuses(TooMany, 7, function, swapped)

    def test_ten_calls_of_two_things(self):
        rows = [("put", at, None) for at in range(5)] + [("take", None, at) for at in range(5)]
        told = set()
        for many in (3, 4, 5):
            calls = tuple(call[:2] + (int(at % 2 == 0 and at < 2 * many),) + call[3:] for at, call in enumerate(together(rows)))
            history = (("queue", "stack"), calls)
            wanted = all(rows_of_each(history))
            self.tells(wanted, is_each_explained, history)
            told.add(wanted)
        puts = behind([("put", at, None) for at in range(10)])
        calls = tuple(call[:2] + (at % 2,) + call[3:] for at, call in enumerate(puts))
        self.tells((tuple(range(5)),) * 2, first_parts, (("queue", "heads"), calls))
        self.tells(tuple(range(10)), laid, (("queue", "heads"), calls), (tuple(range(5)),) * 2)

    def test_refusals(self):
        for function in (is_each_explained, first_parts):
            self.refuses_histories(function)


class TestLaid(Checks, unittest.TestCase):
    def test_some(self):
        self.tells((2, 0, 3, 1, 4), laid, TWO, ((1, 0, 2), (1, 0)))
        history = (TWO[0], TWO[1][:4])
        self.tells((0, 2, 3, 1), laid, history, ((0, 1), (1, 0)))
        self.tells((2, 0, 3, 1), laid, history, ((1, 0), (1, 0)))

    def test_call_by_call(self):
        seen = set()
        for history in small():
            each = rows_of_each(history)
            explained = set(oracle.explanations(history))
            for parts in list(product(*each))[:40]:
                wanted = laid_by_the_words(history, parts)
                self.tells(wanted, laid, history, parts)
                self.assertIn(wanted, explained)
                self.assertEqual(parts_of(history, wanted), parts)
                self.tells(parts, parts_by, history, wanted)
                seen.add(len(parts))
        self.assertEqual(seen, {1, 2, 3, 4})

    def test_each_explanation_has_just_one(self):
        several = 0
        for history in small():
            each = rows_of_each(history)
            rows = oracle.explanations(history)
            told = {}
            for row in rows[:200]:
                parts = parts_of(history, row)
                self.tells(parts, parts_by, history, row)
                self.assertTrue(all(part in found for part, found in zip(parts, each)))
                told.setdefault(parts, []).append(row)
            several += any(len(found) > 1 for found in told.values())
            if len(rows) <= 200:
                self.assertEqual(set(told), set(product(*each)))
        self.assertGreater(several, 50)

    def test_ten_calls(self):
        seen = set()
        for at, sorts in enumerate(MIXES):
            for history in mixed(random.Random(271 + at), sorts, 10, 4, 60):
                if max([0] + [len(alone(history, thing)[0]) for thing in range(len(sorts))]) > 7:
                    continue
                parts = first_parts(history)
                seen.add((len(history[1]) > 7, parts is None))
                if parts is not None:
                    row = laid(history, parts)
                    self.assertEqual(row, laid_by_the_words(history, parts))
                    self.assertTrue(is_explanation(history, row))
                    self.tells(parts, parts_by, history, row)
        self.assertEqual(len(seen), 4)
        # Nothing is too much for what is laid together.
        calls = together([("put", at, None) for at in range(10)])
        self.tells(tuple(range(9, -1, -1)), laid, (("queue",), calls), (tuple(range(9, -1, -1)),))
        self.tells((tuple(range(9, -1, -1)),), parts_by, (("queue",), calls), tuple(range(9, -1, -1)))

    def test_what_is_told_is_plain(self):
        own = Row((Row((Integer(1), Integer(0), 2)), Row((1, 0))))
        self.tells((2, 0, 3, 1, 4), laid, TWO, own)
        self.tells(((1, 0, 2), (1, 0)), parts_by, TWO, Row((Integer(2), 0, 3, 1, Integer(4))))


class TestRefusals(Checks, unittest.TestCase):
    def test_histories(self):
        self.refuses_histories(laid, None)
        self.refuses_histories(parts_by, None)

    def test_parts(self):
        one = (("queue",), ((0, 1, 0, "put", 1, None),))
        self.refuses_odd(BadParts, lambda thing: alike(thing, ((0,),)), laid, (one,))
        self.refuses_odd(BadParts, lambda thing: alike(thing, ((),)), laid, ((("queue",), ()),))
        self.refuses_odd(BadParts, lambda thing: False, laid, (TWO,))
        for parts in ((), ((1, 0, 2),), ((1, 0, 2), (1, 0), ()), ((1, 0), (1, 0, 2)), ((0, 1, 2), (1, 0)), ((1, 0, 2), (0, 1)),
                      ((1, 2, 0), (1, 0)), ((1, 0, 2), ()), [(1, 0, 2), (1, 0)], ([1, 0, 2], (1, 0)), ((True, 0, 2), (1, 0)),
                      ((1, 0, 2), (1, False)), ((2, 0, 4), (3, 1)), ((1, 0, 2), None), None, ((1, 0, 2), "10"), ((1, 0), (1, 0))):
            self.refuses(BadParts, parts, laid, TWO, parts)
        for thing in (None, 0, "x", [1, 0], (0,), {}):
            self.refuses(BadParts, ((1, 0, 2), thing), laid, TWO, ((1, 0, 2), thing))
            self.refuses(BadParts, (thing, (1, 0)), laid, TWO, (thing, (1, 0)))

    def test_orders(self):
        one = (("queue",), ((0, 1, 0, "put", 1, None),))
        self.refuses_odd(BadOrder, lambda thing: alike(thing, (0,)), parts_by, (one,))
        self.refuses_odd(BadOrder, lambda thing: alike(thing, ()), parts_by, ((("queue", "cell"), ()),))
        rows = oracle.explanations(TWO)
        refused = 0
        for row in oracle.orders(TWO):
            if row in rows:
                self.assertEqual(laid(TWO, parts_by(TWO, row)), laid_by_the_words(TWO, parts_of(TWO, row)))
            else:
                refused += 1
                self.refuses(BadOrder, row, parts_by, TWO, row)
        self.assertGreater(refused, 0)
        for row in ((), (0,), list(rows[0]), rows[0][:4], rows[0] + (5,), (4, 3, 2, 1, 0), (False,) + rows[0][1:]):
            self.refuses(BadOrder, row, parts_by, TWO, row)


if __name__ == "__main__":
    unittest.main()
