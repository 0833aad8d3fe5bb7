"""Fewer values, quiet places, plain moments, other values: [6] to [9]."""

import random
import unittest

import oracle
from checks import Checks
from samples import ALL_SORTS, TOP, Integer, Row, behind, mixed, name_of, ranked, together
from shortbars.calls import need_history
from shortbars.errors import BadRenaming, BadThing, BadValues
from shortbars.thin import plain_form, quiet_places, renamed, without_values

WITH_VALUES = ("cell", "queue", "stack", "heads", "set", ("room", 2))


def value_of(call):
    _, _, _, word, given, told = call
    if word in ("add", "count", "draw"):
        return None
    return told if given is None else given


def is_value(thing):
    return type(thing) is int and 0 <= thing <= TOP


def are_values(thing):
    return type(thing) is tuple and all(is_value(part) for part in thing) and list(thing) == sorted(set(thing))


class TestWithoutValues(Checks, unittest.TestCase):
    QUEUE = (("queue", "counter", "queue"), (
        (0, 1, 0, "put", 1, None), (2, 3, 2, "put", 1, None), (4, 5, 0, "take", None, 1), (6, 7, 0, "take", None, None),
        (8, 9, 1, "count", None, 1), (10, 11, 0, "put", 2, None)))

    def test_a_queue(self):
        sorts, calls = self.QUEUE
        self.tells(self.QUEUE, without_values, self.QUEUE, 0, ())
        self.tells(self.QUEUE, without_values, self.QUEUE, 0, (3, TOP))
        self.tells((sorts, (calls[1], calls[3], calls[4], calls[5])), without_values, self.QUEUE, 0, (1,))
        self.tells((sorts, (calls[1], calls[3], calls[4])), without_values, self.QUEUE, 0, (0, 1, 2, 3))
        self.tells((sorts, calls[:1] + calls[2:]), without_values, self.QUEUE, 2, (1,))

    def test_each_word(self):
        rows = {
            "cell": [("write", 1, None), ("read", None, 1), ("read", None, None), ("read", None, 0)],
            "stack": [("put", 1, None), ("take", None, 1), ("take", None, None), ("take", None, 0)],
            "heads": [("put", 1, None), ("take", None, 1), ("take", None, None), ("take", None, 0)],
            "set": [("join", 1, None), ("drop", 1, None), ("has", 1, 0), ("has", 0, 1)],
            ("room", 2): [("enter", 1, None), ("leave", 1, None), ("enter", 0, None), ("leave", 0, None)],
        }
        for sort, row in rows.items():
            calls = behind(row)
            kept = tuple(call for call in calls if value_of(call) != 1)
            self.tells(((sort,), kept), without_values, ((sort,), calls), 0, (1,))
            self.tells(((sort,), tuple(call for call in calls if value_of(call) != 0)), without_values, ((sort,), calls),
                       0, (0,))
            self.tells(((sort,), tuple(call for call in calls if value_of(call) is None)), without_values,
                       ((sort,), calls), 0, (0, 1))

    def test_by_chance_and_an_explained_one_stays_so(self):
        chance = random.Random(31)
        for sort in WITH_VALUES:
            for history in mixed(chance, (sort, "counter"), 6, 4, 60):
                some = tuple(value for value in range(5) if chance.randrange(2))
                kept = tuple(call for call in history[1] if call[2] == 1 or value_of(call) not in some)
                self.tells((history[0], kept), without_values, history, 0, some)
                rows = oracle.explanations(history)
                numbers = [number for number, call in enumerate(history[1]) if call in kept]
                right = oracle.explanations((history[0], kept))
                for row in rows:
                    self.assertIn(tuple(numbers.index(number) for number in row if number in numbers), right)

    def test_what_is_refused(self):
        self.refuses_histories(without_values, None, None)
        sorts = ("cell", "counter", "tickets", "set")
        self.refuses_odd(BadThing, lambda thing: type(thing) is int and thing in (0, 3), without_values, ((sorts, ()),),
                         ((),))
        for sort in ALL_SORTS:
            if sort in ("counter", "tickets"):
                self.refuses(BadThing, 0, without_values, ((sort,), ()), 0, ())
            else:
                self.tells(((sort,), ()), without_values, ((sort,), ()), 0, ())
        self.refuses_odd(BadValues, are_values, without_values, (self.QUEUE, 0))
        for some in ((1, 0), (1, 1), [1], (True,), (-1,), (TOP + 1,), (None,), (0, TOP, TOP), ("1",), ((1,),)):
            self.refuses(BadValues, some, without_values, self.QUEUE, 0, some)
        self.refuses(BadThing, 1, without_values, self.QUEUE, 1, None)
        self.tells(self.QUEUE, without_values, self.QUEUE, 0, tuple(range(1000, 19000)))


class TestQuietPlaces(Checks, unittest.TestCase):
    def test_some(self):
        self.tells((), quiet_places, (("cell",), ()))
        self.tells((), quiet_places, (("counter",), ((0, 1, 0, "add", None, None),)))
        self.tells(tuple(range(1, 10)), quiet_places, (("counter",), behind([("add", None, None)] * 10)))
        self.tells((), quiet_places, (("counter",), together([("add", None, None)] * 10)))
        calls = ((0, 5, 0, "add", None, None), (1, 2, 0, "add", None, None), (3, 4, 0, "add", None, None),
                 (6, 9, 0, "add", None, None), (7, 8, 0, "add", None, None), (10, 11, 0, "add", None, None))
        self.tells((3, 5), quiet_places, (("counter",), calls))

    def test_by_chance(self):
        chance = random.Random(32)
        found = 0
        for history in mixed(chance, ("counter", "set"), 6, 4, 300):
            calls = history[1]
            wanted = tuple(place for place in range(1, len(calls))
                           if all(calls[near][1] < calls[place][0] for near in range(place)))
            self.tells(wanted, quiet_places, history)
            found += len(wanted)
            for place in wanted:
                for row in oracle.orders(history):
                    self.assertEqual(sorted(row[:place]), list(range(place)))
        self.assertGreater(found, 20)

    def test_what_is_refused(self):
        self.refuses_histories(quiet_places)


class TestPlainForm(Checks, unittest.TestCase):
    def test_some(self):
        self.tells((("cell",), ()), plain_form, (("cell",), ()))
        calls = ((7, TOP, 1, "write", 5, None), (8, 100, 0, "put", 5, None), (101, 205, 0, "take", None, 5))
        plain = ((0, 5, 1, "write", 5, None), (1, 2, 0, "put", 5, None), (3, 4, 0, "take", None, 5))
        self.tells((("queue", "cell"), plain), plain_form, (("queue", "cell"), calls))
        self.tells((("queue", "cell"), plain), plain_form, (("queue", "cell"), plain))

    def test_by_chance(self):
        chance = random.Random(33)
        for history in mixed(chance, ("queue", "set"), 10, 4, 100):
            sorts, calls = history
            moments = sorted(chance.sample(range(TOP), 2 * len(calls)))
            longer = tuple((moments[call[0]], moments[call[1]]) + call[2:] for call in plain_form(history)[1])
            need_history((sorts, longer))
            self.tells(plain_form(history), plain_form, (sorts, longer))
            spans = ranked([call[:2] for call in calls])
            self.tells((sorts, tuple(span + call[2:] for span, call in zip(spans, calls))), plain_form, history)
            if len(calls) < 6:
                self.assertEqual(oracle.explanations(history), oracle.explanations((sorts, longer)))

    def test_what_is_refused(self):
        self.refuses_histories(plain_form)


class TestRenamed(Checks, unittest.TestCase):
    def test_each_sort(self):
        rows = {
            "cell": ([("write", 1, None), ("read", None, 1), ("read", None, None), ("read", None, 0)],
                     [("write", 7, None), ("read", None, 7), ("read", None, None), ("read", None, 1)]),
            "queue": ([("put", 1, None), ("take", None, 1), ("take", None, None), ("take", None, 0)],
                      [("put", 7, None), ("take", None, 7), ("take", None, None), ("take", None, 1)]),
            "set": ([("join", 1, None), ("drop", 1, None), ("has", 1, 0), ("has", 0, 1), ("has", 0, 0)],
                    [("join", 7, None), ("drop", 7, None), ("has", 7, 0), ("has", 1, 1), ("has", 1, 0)]),
            ("room", 2): ([("enter", 1, None), ("leave", 1, None), ("enter", 0, None)],
                          [("enter", 7, None), ("leave", 7, None), ("enter", 1, None)]),
        }
        rows["stack"] = rows["heads"] = rows["queue"]
        for sort, (row, wanted) in rows.items():
            self.tells(((sort,), behind(wanted)), renamed, ((sort,), behind(row)), 0, ((0, 1), (1, 7)))
            self.tells(((sort,), behind(wanted)), renamed, ((sort,), behind(row)), 0,
                       ((0, 1), (1, 7), (5, 8), (TOP, TOP)))
            self.tells(((sort,), ()), renamed, ((sort,), ()), 0, ())

    def test_other_things_stay(self):
        calls = ((0, 1, 0, "put", 1, None), (2, 3, 1, "put", 1, None), (4, 5, 2, "count", None, 1),
                 (6, 7, 0, "take", None, 1))
        wanted = ((0, 1, 0, "put", 0, None),) + calls[1:3] + ((6, 7, 0, "take", None, 0),)
        sorts = ("queue", "heads", "counter")
        self.tells((sorts, wanted), renamed, (sorts, calls), 0, ((1, 0),))
        self.tells((sorts, (calls[0], (2, 3, 1, "put", TOP, None)) + calls[2:]), renamed, (sorts, calls), 1, ((1, TOP),))

    def test_values_of_other_things_need_not_be_told(self):
        calls = ((0, 1, 0, "put", 1, None), (2, 3, 1, "put", 2, None), (4, 5, 1, "take", None, 3))
        wanted = ((0, 1, 0, "put", 7, None),) + calls[1:]
        self.tells((("queue", "queue"), wanted), renamed, (("queue", "queue"), calls), 0, ((1, 7),))
        self.refuses(BadRenaming, ((1, 7),), renamed, (("queue", "queue"), calls), 1, ((1, 7),))

    def test_explanations_stay(self):
        chance = random.Random(34)
        for sort in WITH_VALUES:
            for history in mixed(chance, (sort, "counter"), 6, 4, 60):
                values = sorted({value_of(call) for call in history[1] if call[2] == 0} - {None})
                news = chance.sample(range(20), len(values))
                renaming = tuple(zip(values, sorted(news) if sort == "heads" else news))
                other = need_history(renamed(history, 0, renaming))
                self.assertEqual(oracle.explanations(other), oracle.explanations(history))
                back = tuple(sorted((new, old) for old, new in renaming))
                self.tells(history, renamed, other, 0, back)

    def test_what_is_refused(self):
        self.refuses_histories(renamed, None, None)
        sorts = ("cell", "counter", "tickets", "set")
        self.refuses_odd(BadThing, lambda thing: type(thing) is int and thing in (0, 3), renamed, ((sorts, ()),), ((),))
        for sort in ALL_SORTS:
            if sort in ("counter", "tickets"):
                self.refuses(BadThing, 0, renamed, ((sort,), ()), 0, None)

        def right(thing):
            if type(thing) is not tuple or not all(type(pair) is tuple and len(pair) == 2 for pair in thing):
                return False
            if not all(is_value(value) for pair in thing for value in pair):
                return False
            return len({old for old, _ in thing}) == len({new for _, new in thing}) == len(thing) \
                and list(thing) == sorted(thing)
        self.refuses_odd(BadRenaming, right, renamed, ((("cell",), ()), 0))

    def test_what_is_no_renaming(self):
        history = (("queue",), behind([("put", 1, None), ("put", 2, None), ("take", None, 3)]))
        good = ((1, 5), (2, 4), (3, 0))
        renamed(history, 0, good)
        for renaming in (list(good), good[:2], good[1:], (), ((2, 4), (1, 5), (3, 0)), ((1, 5), (2, 5), (3, 0)),
                         ((1, 5), (1, 6), (2, 4), (3, 0)), ((1, 5), (2, 4), (3, TOP + 1)), ((-1, 5),) + good,
                         ([1, 5], (2, 4), (3, 0)), ((1, 5, 6), (2, 4), (3, 0)), ((1,), (2, 4), (3, 0)),
                         ((True, 5), (2, 4), (3, 0)), ((1, True), (2, 4), (3, 0)), ((1, None), (2, 4), (3, 0)),
                         ((1, 5), (2, 4), (3, "0")), (None,) + good, good + (5,), {1: 5, 2: 4, 3: 0}):
            self.refuses(BadRenaming, renaming, renamed, history, 0, renaming)

    def test_heads_keep_their_turn(self):
        for sort in WITH_VALUES:
            word = {"room": "enter", "set": "join", "cell": "write"}.get(name_of(sort), "put")
            history = ((sort,), behind([(word, 1, None), (word, 2, None)]))
            for renaming in (((1, 5), (2, 4)), ((0, 9), (1, 3), (2, 4)), ((1, 3), (2, 4), (3, 0))):
                if sort == "heads":
                    self.refuses(BadRenaming, renaming, renamed, history, 0, renaming)
                else:
                    renamed(history, 0, renaming)
            renamed(history, 0, ((0, 1), (1, 3), (2, 4)))

    def test_what_is_told_is_plain(self):
        history = (("queue",), ((0, 1, 0, "put", 1, None),))
        self.tells((("queue",), ((0, 1, 0, "put", 2, None),)), renamed, history, Integer(0),
                   Row((Row((Integer(1), Integer(2))),)))


if __name__ == "__main__":
    unittest.main()
