"""What a question whether a value is in could be told: [42]."""

import random
import unittest

import oracle
from checks import Checks
from samples import Integer, behind, every, mixed, together
from shortbars.calls import calls_of_lot
from shortbars.errors import BadNumber
from shortbars.flags import flag_paper
from shortbars.hastold import could_have
from test_couldtell import with_told
from test_flags import EMPTY, MORE, SOME, WORDS, tangled, tens


def small():
    for many in (1, 2, 3):
        yield from every("set", WORDS, many)
    yield from list(every("set", WORDS, 4))[::9]
    yield from list(every("set", MORE, 3))[::7]
    yield from mixed(random.Random(251), ("set",), 7, 2, 300)
    chance = random.Random(252)
    yield from (tangled(chance, 7, chance.choice((1, 2)), chance.choice((9, 25, 60))) for _ in range(400))


def asked(history):
    return [number for number, call in enumerate(history[1]) if call[3] == "has"]


class TestCouldHave(Checks, unittest.TestCase):
    def test_some(self):
        self.tells((0,), could_have, (("set",), behind([("has", 5, 1)])), 0)
        self.tells((0, 1), could_have, (("set",), together([("join", 5, None), ("has", 5, 1)])), 1)
        self.tells((1,), could_have, (("set",), behind([("join", 5, None), ("has", 5, 0)])), 1)
        self.tells((0,), could_have, (("set",), behind([("join", 5, None), ("drop", 5, None), ("has", 5, 0)])), 2)
        self.tells((0, 1), could_have, (("set",), together([("join", 5, None), ("drop", 5, None), ("has", 5, 0)])), Integer(2))

    def test_nothing(self):
        # What another one was told is wrong, of this value or of another one.
        history = (("set",), behind([("has", 5, 1), ("has", 6, 0)]))
        self.tells((), could_have, history, 1)
        self.tells((0,), could_have, history, 0)
        for number in asked(SOME)[:-1]:
            self.tells((), could_have, SOME, number)
        self.tells((0,), could_have, SOME, 9)

    def test_each_value_tried(self):
        told = set()
        for history in small():
            for number in asked(history):
                wanted = tuple(some for some in (0, 1) if oracle.explanations(with_told(history, number, some)))
                self.tells(wanted, could_have, history, number)
                told.add(wanted)
        self.assertEqual(told, {(), (0,), (1,), (0, 1)})

    def test_it_hangs_on_its_value_alone(self):
        seen = set()
        for history in small():
            calls = history[1]
            for number in asked(history):
                value = calls[number][4]
                others = tuple(at for at, call in enumerate(calls) if call[4] != value)
                if not oracle.explanations(calls_of_lot(history, others)):
                    continue
                own = tuple(at for at, call in enumerate(calls) if call[4] == value)
                told = could_have(calls_of_lot(history, own), own.index(number))
                self.tells(told, could_have, history, number)
                seen.add((told, others != ()))
        self.assertEqual(len(seen), 8)

    def test_ten_calls(self):
        told = set()
        for history in tens():
            for number in asked(history):
                found = could_have(history, number)
                self.assertEqual(history[1][number][5] in found, flag_paper(history)[0] == "order")
                told.add((len(history[1]) > 7, found))
        self.assertTrue({(True, found) for found in ((), (0,), (1,), (0, 1))} <= told)

    def test_refusals(self):
        self.refuses_histories(could_have, None)
        self.refuses_sorts(could_have, ("set",), None)
        self.refuses_odd(BadNumber, lambda thing: type(thing) is int and thing in asked(SOME), could_have, (SOME,))
        for number in (0, 2, 4, 5, 6, 10, -1):
            self.refuses(BadNumber, number, could_have, SOME, number)
        self.refuses_odd(BadNumber, lambda thing: False, could_have, (EMPTY,))


if __name__ == "__main__":
    unittest.main()
