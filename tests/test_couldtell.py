"""What a count could tell: [37]."""

import random
import unittest

import countfacts
import oracle
from checks import Checks
from oracle import ahead
from samples import TOP, Integer, behind, every, mixed, together
from shortbars.counters import count_paper
from shortbars.couldtell import could_tell, told_instead
from shortbars.errors import BadNumber, BadValue
from test_counters import ADD, EMPTY, SOME, near_truth, tens

WORDS = (ADD, ("count", None, 0), ("count", None, 1), ("count", None, 3))


def small():
    for many in (1, 2, 3):
        yield from every("counter", WORDS, many)
    yield from list(every("counter", WORDS, 4))[::29]
    yield from mixed(random.Random(221), ("counter",), 6, 4, 250)
    chance = random.Random(222)
    yield from (near_truth(chance, 6, chance.choice((5, 15, 40))) for _ in range(350))


def with_told(history, number, told):
    calls = history[1]
    return history[0], calls[:number] + (calls[number][:5] + (told,),) + calls[number + 1:]


class TestCouldTell(Checks, unittest.TestCase):
    def test_some(self):
        self.tells((0,), could_tell, SOME, 0)
        self.tells((1, 2), could_tell, SOME, 3)
        self.tells((2, 3), could_tell, SOME, 5)
        history = (("counter",), together([ADD, ADD, ("count", None, TOP), ADD]))
        self.tells((0, 1, 2, 3), could_tell, history, 2)
        self.tells((0,), could_tell, (("counter",), behind([("count", None, 7)])), 0)
        self.tells((2,), could_tell, (("counter",), behind([ADD, ADD, ("count", None, 0), ADD])), 2)

    def test_nothing(self):
        # What another one told is wrong, whatever this one tells.
        history = (("counter",), behind([ADD, ("count", None, 2), ("count", None, 1)]))
        self.tells((), could_tell, history, 2)
        self.tells((1,), could_tell, history, 1)
        history = (("counter",), together([ADD, ("count", None, 1)], (10, 11, 0, "count", None, 5)))
        self.tells((), could_tell, history, 1)
        self.tells((1,), could_tell, history, 2)

    def test_ten_calls(self):
        history = (("counter",), together([ADD] * 9 + [("count", None, 5)]))
        self.tells(tuple(range(10)), could_tell, history, 9)
        sizes = set()
        for history in tens():
            for number in countfacts.counts(history):
                told = could_tell(history, number)
                self.assertEqual(history[1][number][5] in told, count_paper(history)[0] == "order")
                sizes.add((len(history[1]) > 7, min(len(told), 3)))
        self.assertTrue({(True, many) for many in range(4)} <= sizes)

    def test_each_value_tried(self):
        sizes = set()
        for history in small():
            for number in countfacts.counts(history):
                wanted = tuple(told for told in range(len(history[1]) + 2)
                               if oracle.explanations(with_told(history, number, told)))
                self.tells(wanted, could_tell, history, number)
                sizes.add(len(wanted))
                if wanted:
                    self.assertEqual(wanted, tuple(range(wanted[0], wanted[-1] + 1)))
                    calls = history[1]
                    adds = [calls[add] for add in countfacts.adds(history)]
                    self.assertGreaterEqual(wanted[0], sum(ahead(add, calls[number]) for add in adds))
                    self.assertLessEqual(wanted[-1], sum(not ahead(calls[number], add) for add in adds))
        self.assertTrue({0, 1, 2, 3} <= sizes)

    def test_refusals(self):
        self.refuses_histories(could_tell, None)
        self.refuses_sorts(could_tell, ("counter",), None)
        self.refuses_odd(BadNumber, lambda thing: type(thing) is int and thing in (0, 3, 5), could_tell, (SOME,))
        for number in (1, 2, 4, 6, 7, -1):
            self.refuses(BadNumber, number, could_tell, SOME, number)
        self.refuses_odd(BadNumber, lambda thing: False, could_tell, (EMPTY,))


class TestToldInstead(Checks, unittest.TestCase):
    def test_some(self):
        for number in (0, 3, 5):
            for told in (0, 1, 7, TOP):
                self.tells(with_told(SOME, number, told), told_instead, SOME, number, told)
        self.tells(with_told(SOME, 3, 4), told_instead, SOME, Integer(3), Integer(4))
        self.assertEqual(SOME[1][3][5], 1)

    def test_it_is_explained_by_just_what_it_could_tell(self):
        for history in tens():
            for number in countfacts.counts(history)[:2]:
                told = could_tell(history, number)
                for some in range(len(history[1]) + 1):
                    self.assertEqual(count_paper(told_instead(history, number, some))[0] == "order", some in told)

    def test_refusals(self):
        self.refuses_histories(told_instead, None, None)
        self.refuses_sorts(told_instead, ("counter",), None, None)
        self.refuses_odd(BadNumber, lambda thing: type(thing) is int and thing in (0, 3, 5), told_instead, (SOME,), (1,))
        self.refuses_odd(BadValue, lambda thing: type(thing) is int and 0 <= thing <= TOP, told_instead, (SOME, 3))
        self.refuses(BadNumber, 1, told_instead, SOME, 1, None)
        self.refuses(BadNumber, None, told_instead, SOME, None, None)


if __name__ == "__main__":
    unittest.main()
