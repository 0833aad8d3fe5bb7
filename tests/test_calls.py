"""Histories, what is none, and what is taken out of them: [2], [4], [5]."""

import random
import unittest
from itertools import permutations, product

import oracle
from checks import Checks, alike
from samples import ALL_SORTS, NO_HISTORIES, ODD, ONCE, TOP, WORDS, Integer, Row, Text, behind, mixed, name_of, wild
from shortbars.calls import calls_of_lot, history_of_thing, is_ahead, is_order, need_history
from shortbars.errors import BadHistory, BadLot, BadNumber, BadThing

# Three calls: 0 overlaps with 1, both are ahead of 2.
THREE = (("queue", "cell"), ((0, 3, 0, "put", 5, None), (1, 2, 1, "read", None, None), (4, 9, 0, "take", None, 5)))
GIVEN_FORMS = {
    "write": "value", "read": "none", "put": "value", "take": "none", "enter": "value", "leave": "value",
    "add": "none", "count": "none", "draw": "none", "join": "value", "drop": "value", "has": "value",
}
TOLD_FORMS = {
    "write": "none", "read": "perhaps", "put": "none", "take": "perhaps", "enter": "none", "leave": "none",
    "add": "none", "count": "value", "draw": "value", "join": "none", "drop": "none", "has": "bit",
}


def has_form(thing, form):
    whole = type(thing) is int
    return {
        "value": whole and 0 <= thing <= TOP, "none": thing is None, "bit": whole and thing in (0, 1),
        "perhaps": thing is None or (whole and 0 <= thing <= TOP),
    }[form]


class TestNeedHistory(Checks, unittest.TestCase):
    def test_it_is_told_itself(self):
        for history in (THREE, (("cell",), ())):
            self.assertIs(need_history(history), history)

    def test_no_calls_and_ten(self):
        ten = (("queue",), behind([("put", at, None) for at in range(10)]))
        self.assertIs(need_history(ten), ten)
        eleven = (("queue",), behind([("put", at, None) for at in range(11)]))
        self.refuses(BadHistory, "calls", need_history, eleven)

    def test_each_sort_alone_and_one_to_four(self):
        for sort in ALL_SORTS:
            self.assertEqual(need_history(((sort,), ())), ((sort,), ()))
        for many in range(1, 5):
            need_history((("set",) * many, ()))
        for many in (0, 5, 6):
            self.refuses(BadHistory, "sorts", need_history, (("set",) * many, ()))

    def test_rooms_from_one_to_nine(self):
        for size in (1, 9):
            need_history(((("room", size),), ()))
        for size in (0, 10, -1, True, None, "1", 10 ** 30):
            self.refuses(BadHistory, "sorts", need_history, ((("room", size),), ()))

    def test_the_words_of_each_sort(self):
        words = sorted(GIVEN_FORMS)
        for sort, word in product(ALL_SORTS, words):
            given = 1 if GIVEN_FORMS[word] == "value" else None
            told = 1 if TOLD_FORMS[word] in ("value", "bit") else None
            history = ((sort,), ((0, 1, 0, word, given, told),))
            if word in WORDS[name_of(sort)]:
                need_history(history)
            else:
                self.refuses(BadHistory, "calls", need_history, history)

    def test_what_may_be_given_and_told(self):
        for sort in ("cell", "queue", "stack", "heads", "counter", "tickets", "set", ("room", 2)):
            for word in WORDS[name_of(sort)]:
                good_given = 1 if GIVEN_FORMS[word] == "value" else None
                good_told = 1 if TOLD_FORMS[word] in ("value", "bit") else None
                for thing in ODD:
                    for given, told, fits in ((thing, good_told, has_form(thing, GIVEN_FORMS[word])),
                                              (good_given, thing, has_form(thing, TOLD_FORMS[word]))):
                        history = ((sort,), ((0, 1, 0, word, given, told),))
                        if fits:
                            need_history(history)
                        else:
                            self.refuses(BadHistory, "calls", need_history, history)

    def test_moments_and_values_at_their_ends(self):
        need_history((("queue",), ((0, TOP, 0, "put", TOP, None), (1, 2, 0, "put", 0, None))))
        for call in ((-1, 2, 0, "put", 1, None), (0, TOP + 1, 0, "put", 1, None), (0, 1, 0, "put", TOP + 1, None),
                     (0, 1, 0, "put", -1, None), (3, 3, 0, "put", 1, None), (4, 3, 0, "put", 1, None)):
            self.refuses(BadHistory, "calls", need_history, (("queue",), (call,)))

    def test_things_are_those_that_there_are(self):
        for many in range(1, 5):
            for thing in ODD:
                history = (("counter",) * many, ((0, 1, thing, "add", None, None),))
                if type(thing) is int and 0 <= thing < many:
                    need_history(history)
                else:
                    self.refuses(BadHistory, "calls", need_history, history)

    def test_moments_of_calls_are_each_in_its_place(self):
        for thing in ODD:
            for call in ((thing, TOP, 0, "add", None, None), (0, thing, 0, "add", None, None)):
                whole = type(thing) is int and 0 <= thing <= TOP and call[0] < call[1]
                if whole:
                    need_history((("counter",), (call,)))
                else:
                    self.refuses(BadHistory, "calls", need_history, (("counter",), (call,)))

    def test_what_is_no_history(self):
        self.refuses_histories(need_history)

    def test_odd_things_in_the_place_of_each_part(self):
        for thing in ODD:
            part = "sorts" if alike(thing, ((0, 1), (1, 0))) else "form"
            self.refuses(BadHistory, part, need_history, thing)
            if type(thing) is not tuple:
                self.refuses(BadHistory, "form", need_history, (("cell",), thing))
                self.refuses(BadHistory, "form", need_history, (thing, ()))
            self.refuses(BadHistory, "calls", need_history, (("cell",), (thing,)))
            if type(thing) is not str or thing not in ALL_SORTS:
                if not alike(thing, ("room", 1)):
                    self.refuses(BadHistory, "sorts", need_history, ((thing,), ()))
                    self.refuses(BadHistory, "sorts", need_history, (("cell", thing), ()))

    def test_which_values_come_once(self):
        for sort in ("cell", "queue", "stack", "heads", "set", ("room", 2)):
            for word in WORDS[name_of(sort)]:
                given = 7 if GIVEN_FORMS[word] == "value" else None
                told = 1 if TOLD_FORMS[word] == "bit" else None
                history = ((sort,), behind([(word, given, told), (word, given, told)]))
                if word in ONCE:
                    self.refuses(BadHistory, "twice", need_history, history)
                else:
                    need_history(history)
                other = ((sort, sort), ((0, 1, 0, word, given, told), (2, 3, 1, word, given, told)))
                need_history(other)
        need_history((("queue",), behind([("put", 7, None), ("take", None, 7), ("take", None, 7)])))
        need_history(((("room", 1),), behind([("enter", 7, None), ("leave", 7, None)])))
        need_history((("counter",), behind([("add", None, None)] * 10)))
        need_history((("tickets",), behind([("draw", None, 3)] * 10)))

    def test_the_first_one_of_several_is_told(self):
        twice = ((0, 1, 0, "put", 1, None), (2, 3, 0, "put", 1, None))
        moments = ((2, 3, 0, "put", 1, None), (0, 1, 0, "put", 1, None))
        self.refuses(BadHistory, "twice", need_history, (("queue",), twice))
        self.refuses(BadHistory, "moments", need_history, (("queue",), moments))
        self.refuses(BadHistory, "calls", need_history, (("queue",), moments + (None,)))
        self.refuses(BadHistory, "sorts", need_history, ((), moments + (None,)))
        self.refuses(BadHistory, "form", need_history, ([], moments + (None,)))
        self.refuses(BadHistory, "form", need_history, ((), list(moments)))

    def test_by_chance_all_are_histories(self):
        chance = random.Random(1)
        for at in range(300):
            sorts = tuple(chance.choice(ALL_SORTS) for _ in range(1 + at % 4))
            history = wild(chance, sorts, 10, 6)
            self.assertIs(need_history(history), history)

    def test_what_is_of_a_class_of_its_own_is_told_plain(self):
        own = Row((Row((Text("queue"), Row((Text("room"), Integer(2))))),
                   Row((Row((Integer(0), Integer(1), Integer(0), Text("put"), Integer(4), None)),
                        Row((Integer(2), Integer(3), Integer(1), Text("enter"), Integer(4), None))))))
        plain = (("queue", ("room", 2)), ((0, 1, 0, "put", 4, None), (2, 3, 1, "enter", 4, None)))
        self.assertIs(need_history(own), own)
        self.tells(plain, calls_of_lot, own, (0, 1))
        self.tells((plain[0], plain[1][1:]), calls_of_lot, own, (Integer(1),))
        self.tells(((("room", 2),), ((2, 3, 0, "enter", 4, None),)), history_of_thing, own, Integer(1))


class TestIsAhead(Checks, unittest.TestCase):
    def test_it_is_ahead_if_it_ends_ahead(self):
        wanted = {(0, 2), (1, 2)}
        for number, far in product(range(3), repeat=2):
            self.tells((number, far) in wanted, is_ahead, THREE, number, far)

    def test_by_chance(self):
        chance = random.Random(2)
        for history in mixed(chance, ("cell", "set"), 10, 4, 60):
            calls = history[1]
            for number, far in product(range(len(calls)), repeat=2):
                self.tells(calls[number][1] < calls[far][0], is_ahead, history, number, far)

    def test_what_is_refused(self):
        self.refuses_histories(is_ahead, None, None)
        self.refuses_odd(BadNumber, lambda thing: type(thing) is int and 0 <= thing < 3, is_ahead, (THREE,), (2,))
        self.refuses_odd(BadNumber, lambda thing: type(thing) is int and 0 <= thing < 3, is_ahead, (THREE, 0))
        self.refuses(BadNumber, "first", is_ahead, THREE, "first", "second")
        self.refuses(BadNumber, 0, is_ahead, (("cell",), ()), 0, 0)


class TestIsOrder(Checks, unittest.TestCase):
    def test_small_ones(self):
        for row in list(permutations(range(3))) + [(), (0,), (0, 1), (0, 0, 1), (0, 1, 2, 2), (0, 1, 3), (1, 2, 3)]:
            self.tells(row in ((0, 1, 2), (1, 0, 2)), is_order, THREE, row)
        self.tells(True, is_order, (("cell",), ()), ())

    def test_against_all_turns(self):
        chance = random.Random(3)
        for history in mixed(chance, ("cell", "queue"), 5, 4, 120):
            right = oracle.orders(history)
            for row in permutations(range(len(history[1]))):
                self.tells(row in right, is_order, history, row)

    def test_ten_calls(self):
        history = (("queue",), behind([("put", at, None) for at in range(10)]))
        self.tells(True, is_order, history, tuple(range(10)))
        self.tells(False, is_order, history, tuple(range(8)) + (9, 8))

    def test_any_value(self):
        one = (("cell",), ((0, 1, 0, "read", None, None),))
        two = (("cell",), ((0, 2, 0, "read", None, None), (1, 3, 0, "read", None, None)))
        for thing in ODD:
            self.tells(type(thing) is tuple and thing == (0,) and type(thing[0]) is int, is_order, one, thing)
            right = type(thing) is tuple and len(thing) == 2 and type(thing[0]) is type(thing[1]) is int
            self.tells(right and sorted(thing) == [0, 1], is_order, two, thing)
        self.tells(False, is_order, two, [0, 1])
        self.tells(False, is_order, two, (False, True))
        self.tells(False, is_order, two, (0, True))
        self.refuses_histories(is_order, None)

    def test_it_is_what_unlike_numbers_tell(self):
        chance = random.Random(4)
        for history in mixed(chance, ("set",), 5, 3, 60):
            calls = history[1]
            for _ in range(20):
                points = [begin + (end - begin) * chance.randrange(1, 10 ** 6) / 10 ** 6 for begin, end, *_ in calls]
                row = tuple(sorted(range(len(calls)), key=lambda number: (points[number], number)))
                self.tells(True, is_order, history, row)


class TestParts(Checks, unittest.TestCase):
    def test_the_history_of_a_lot(self):
        for lot in ((), (0,), (1,), (2,), (0, 1), (0, 2), (1, 2), (0, 1, 2)):
            self.tells((THREE[0], tuple(THREE[1][number] for number in lot)), calls_of_lot, THREE, lot)

    def test_what_is_no_lot(self):
        self.refuses_histories(calls_of_lot, None)
        rights = ((), (0,), (0, 1), (0, 1, 2))
        self.refuses_odd(BadLot, lambda thing: type(thing) is tuple and thing in rights
                         and all(type(number) is int for number in thing), calls_of_lot, (THREE,))
        for lot in ((1, 0), (0, 0), (0, 3), (-1, 0), (0, 1, 2, 3), [0, 1], (0, True)):
            self.refuses(BadLot, lot, calls_of_lot, THREE, lot)

    def test_the_history_of_a_thing(self):
        self.tells((("queue",), (THREE[1][0], THREE[1][2])), history_of_thing, THREE, 0)
        self.tells((("cell",), ((1, 2, 0, "read", None, None),)), history_of_thing, THREE, 1)
        self.tells((("set",), ()), history_of_thing, (("set",) * 4, ()), 3)
        self.tells(((("room", 9),), ()), history_of_thing, (("set", ("room", 9)), ()), 1)

    def test_what_is_no_thing(self):
        self.refuses_histories(history_of_thing, None)
        for many in range(1, 5):
            history = (("set",) * many, ())
            self.refuses_odd(BadThing, lambda thing: type(thing) is int and 0 <= thing < many, history_of_thing,
                             (history,))

    def test_parts_are_histories_of_their_own(self):
        chance = random.Random(5)
        for history in mixed(chance, ("cell", "queue", ("room", 2), "counter"), 10, 4, 150):
            for thing in range(4):
                part = history_of_thing(history, thing)
                need_history(part)
                wanted = tuple(call[:2] + (0,) + call[3:] for call in history[1] if call[2] == thing)
                self.assertEqual(part, ((history[0][thing],), wanted))
            lot = tuple(number for number in range(len(history[1])) if chance.randrange(2))
            need_history(calls_of_lot(history, lot))

    def test_of_an_explained_history_each_thing_is(self):
        chance = random.Random(6)
        for history in mixed(chance, ("stack", "tickets", "set"), 6, 4, 200):
            if oracle.explanations(history):
                for thing in range(3):
                    self.assertTrue(oracle.explanations(history_of_thing(history, thing)), history)

    def test_the_samples_of_what_is_none_are_of_each_part(self):
        self.assertEqual({part for _, part in NO_HISTORIES}, {"form", "sorts", "calls", "moments", "twice"})


if __name__ == "__main__":
    unittest.main()
