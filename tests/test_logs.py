"""Logs: what is one, and whether it is told: [45]."""

import random
import unittest
from itertools import product

import logfacts
import oracle
from checks import Checks, alike
from samples import ODD, ONCE, TOP, Integer, Odd, Row, Same, Text, behind, mixed, name_of, together, told_kinds
from samples import WORDS as WORDS_OF
from shortbars.errors import BadHands, BadLog, BadThing, TooMany
from shortbars.logs import first_row, is_row, is_told, log_by, log_of_thing, need_log

PUT = (0, "put", 1, None)
TAKE = (0, "take", None, 1)
EMPTY = (("queue",), ((),))
# One hand puts 1 and then 2, the other one takes 1; what the third one does comes between.
SOME = (("queue", "set"), (
    (PUT, (0, "put", 2, None)), (TAKE, (1, "has", 5, 1)), ((1, "join", 5, None), (0, "take", None, 2))))
# Each thing is told, both together are not: each hand looks at one thing and then does what the other one saw.
CROSSED = (("cell", "cell"), (
    ((0, "read", None, 5), (1, "write", 7, None)), ((1, "read", None, 7), (0, "write", 5, None))))


def by_chance(chance, sorts, many, hands, most):
    """A log of up to so many steps, all by chance."""
    steps = []
    for _ in range(many):
        thing = chance.randrange(len(sorts))
        word = chance.choice(WORDS_OF[name_of(sorts[thing])])
        given = chance.randrange(most) if word in ONCE or word == "has" else None
        told = chance.choice(told_kinds(word, chance.randrange(most)))
        if word in ONCE and (thing, word, given) in [step[:3] for step in steps]:
            continue
        steps.append((thing, word, given, told))
    return dealt(chance, sorts, steps, hands)


def dealt(chance, sorts, steps, hands):
    rows = [[] for _ in range(hands)]
    for step in steps:
        rows[chance.randrange(hands)].append(step)
    return sorts, tuple(tuple(row) for row in rows)


def told_one(chance, sorts, many, hands, most):
    """A log that is told: what things told one step behind the other, dealt to hands, these perhaps mixed up."""
    states = [oracle.first_state(sort) for sort in sorts]
    steps = []
    for _ in range(many):
        thing = chance.randrange(len(sorts))
        word = chance.choice(WORDS_OF[name_of(sorts[thing])])
        given = chance.randrange(most) if word in ONCE or word == "has" else None
        if word in ONCE and (thing, word, given) in [step[:3] for step in steps]:
            continue
        state = list(states[thing])
        goes, told = oracle.act(sorts[thing], state, word, given)
        if goes:
            states[thing] = state
            steps.append((thing, word, given, told))
    if chance.randrange(2):
        chance.shuffle(steps)
    return dealt(chance, sorts, steps, hands)


MIXES = (("cell",), ("queue",), ("stack", "heads"), (("room", 1), "set"), ("counter", "tickets"), ("cell", "queue", "set", "stack"))


def small():
    chance = random.Random(281)
    for sorts in MIXES:
        for at in range(150):
            make = by_chance if at % 3 == 0 else told_one
            yield make(chance, sorts, chance.randrange(7), 1 + at % 4, 3)
    yield SOME
    yield CROSSED
    yield EMPTY


class TestNeedLog(Checks, unittest.TestCase):
    def good(self):
        yield from small()
        for hands in range(1, 5):
            yield ("cell",), ((),) * hands
            yield ("cell", "queue", "stack", ("room", 9)), ((),) * hands
        yield ("queue",), (tuple((0, "put", at, None) for at in range(8)),)
        yield ("queue",), tuple(((0, "put", at, None), (0, "take", None, at)) for at in range(4))
        yield ("counter",), (((0, "add", None, None), (0, "count", None, TOP)) * 4,)
        # The same GIVEN of another thing, of another word, or of one that may have it.
        yield ("queue", "queue"), ((PUT, (1, "put", 1, None)),)
        yield ("set",), (((0, "join", 1, None), (0, "drop", 1, None)), ((0, "has", 1, 0), (0, "has", 1, 0)))
        yield ("queue",), ((TAKE, TAKE), (TAKE,))

    def test_itself(self):
        for log in self.good():
            self.assertIs(need_log(log), log)
            own = Row((Row(log[0]), Row(Row(Row(step) for step in hand) for hand in log[1])))
            self.assertIs(need_log(own), own)

    def bad(self):
        yield from (thing for thing in ODD)
        steps = ((PUT,),)
        yield from ((("queue",),), (("queue",), steps, ()), [("queue",), steps], (["queue"], steps), (("queue",), [(PUT,)]),
                    (("queue",), ([PUT],)), (steps, ("queue",)), (("queue",), None), (None, steps), (("queue",), ()),
                    (("queue",), ((),) * 5), ((), ((),)), (("queue",) * 5, ((),)), (("queues",), ((),)), ((None,), ((),)),
                    ((("room", 0),), ((),)), ((("room", 10),), ((),)), ((("room", True),), ((),)), ((["room", 1],), ((),)),
                    (("queue",), "ab"), ("queue", steps), (("queue",), PUT), (("queue",), (PUT,)), (("queue",), {(PUT,): 0}),
                    (("queue",), (tuple((0, "put", at, None) for at in range(9)),)),
                    (("queue",), (tuple((0, "put", at, None) for at in range(4)), tuple((0, "put", at, None) for at in range(4, 9)))),
                    (("queue",), ((TAKE,) * 3,) * 3), (("cell", "room"), ((),)))
        for wrong in (PUT[:3], PUT + (None,), list(PUT), (0, 1) + PUT, (1,) + PUT[1:], (-1,) + PUT[1:], (False,) + PUT[1:],
                      (None,) + PUT[1:], (Same(),) + PUT[1:], (0, "Put", 1, None), (0, "write", 1, None), (0, b"put", 1, None),
                      (0, Same(), 1, None), (0, ["put"], 1, None), (0, "put", None, None), (0, "put", True, None),
                      (0, "put", -1, None), (0, "put", TOP + 1, None), (0, "put", "1", None), (0, "put", Same(), None),
                      (0, "put", 1, 1), (0, "put", 1, False), (0, "put", 1, Same()), (0, "take", 1, 1), (0, "take", None, -1),
                      (0, "take", None, True), (0, "take", None, TOP + 1), (0, "take", None, Same()), (0, "take", Same(), 1)):
            yield ("queue",), ((wrong,),)
            yield ("queue",), ((TAKE,), (TAKE, wrong))
        yield from (((("queue",), ((thing,),))) for thing in ODD)
        yield from (((("queue",), (thing,))) for thing in ODD if not (type(thing) is tuple and thing == ()))
        # One hand is right, the other one is not.
        for wrong in ([TAKE], None, [], "", {}, 0, PUT, Same()):
            yield ("queue",), ((PUT,), wrong)
            yield ("queue",), (wrong, (PUT,))
        yield ("set",), (((0, "has", 1, None),),)
        yield ("set",), (((0, "has", 1, 2),),)
        yield ("set",), (((0, "has", 1, True),),)
        yield ("counter",), (((0, "count", None, None),),)
        yield ("counter",), (((0, "add", None, 0),),)
        # The same GIVEN that may not have it, in one hand or in two.
        for word in ONCE:
            sort = next(sort for sort in ("cell", "queue", ("room", 1), "set") if word in WORDS_OF[name_of(sort)])
            step = (0, word, 1, None)
            yield (sort,), ((step, step),)
            yield (sort,), ((step,), (step,))
            yield (sort,), ((step,), (), ((0, word, 2, None), step))

    def test_what_is_none(self):
        many = 0
        for thing in self.bad():
            many += 1
            for function, more in ((need_log, ()), (log_of_thing, (None,)), (is_told, ()), (first_row, ()), (is_row, (None,))):
                self.refuses(BadLog, thing, function, thing, *more)
        self.assertGreater(many, 250)


class TestOfAThing(Checks, unittest.TestCase):
    def test_some(self):
        self.tells((("queue",), ((PUT, (0, "put", 2, None)), (TAKE,), ((0, "take", None, 2),))), log_of_thing, SOME, 0)
        self.tells((("set",), ((), ((0, "has", 5, 1),), ((0, "join", 5, None),))), log_of_thing, SOME, 1)
        self.tells(EMPTY, log_of_thing, EMPTY, 0)

    def test_all(self):
        seen = 0
        for log in small():
            for thing in range(len(log[0])):
                wanted = logfacts.of_thing(log, thing)
                self.tells(wanted, log_of_thing, log, thing)
                self.assertEqual(len(wanted[1]), len(log[1]))
                seen += () in wanted[1]
                if is_told(log):
                    self.tells(True, is_told, wanted)
        self.assertGreater(seen, 100)

    def test_refusals(self):
        self.refuses_odd(BadThing, lambda thing: type(thing) is int and thing in (0, 1), log_of_thing, (SOME,))
        self.refuses_odd(BadThing, lambda thing: type(thing) is int and thing == 0, log_of_thing, (EMPTY,))

    def test_what_is_told_is_plain(self):
        own = Row((Row((Text("queue"), Row(("room", Integer(1))))), Row((Row((Row((Integer(1), Text("enter"), Integer(4), None)),)),))))
        self.tells(((("room", 1),), (((0, "enter", 4, None),),)), log_of_thing, own, Integer(1))


class TestRows(Checks, unittest.TestCase):
    def test_some(self):
        self.tells(True, is_told, SOME)
        self.tells(((0, 0), (0, 1), (1, 0), (2, 0), (1, 1), (2, 1)), first_row, SOME)
        for row, wanted in ((((0, 0), (1, 0), (0, 1), (2, 0), (1, 1), (2, 1)), True),
                            (((2, 0), (0, 0), (1, 0), (1, 1), (0, 1), (2, 1)), True),
                            (((1, 0), (0, 0), (0, 1), (2, 0), (1, 1), (2, 1)), False),
                            (((0, 1), (0, 0), (1, 0), (2, 0), (1, 1), (2, 1)), False),
                            (((0, 0), (0, 1), (1, 0), (1, 1), (2, 0), (2, 1)), False),
                            (((0, 0), (0, 1), (1, 0), (2, 0), (1, 1)), False)):
            self.tells(wanted, is_row, SOME, row)

    def test_no_steps(self):
        for hands in range(1, 5):
            log = (("cell",), ((),) * hands)
            self.tells(True, is_told, log)
            self.tells((), first_row, log)
            self.tells(True, is_row, log, ())
            self.tells(False, is_row, log, ((0, 0),))
        self.tells(False, is_row, EMPTY, [])

    def test_a_hand_without_steps(self):
        log = (("queue",), ((), (PUT,), (), (TAKE,)))
        self.tells(((1, 0), (3, 0)), first_row, log)
        self.tells(True, is_row, log, ((1, 0), (3, 0)))
        self.tells(False, is_row, log, ((0, 0), (3, 0)))

    def test_each_thing_is_told_but_not_both(self):
        self.tells(False, is_told, CROSSED)
        self.tells(None, first_row, CROSSED)
        for thing in (0, 1):
            self.tells(True, is_told, log_of_thing(CROSSED, thing))
        self.tells(((0, 0),), first_row, (("queue",), (((0, "take", None, None),),)))

    def test_what_cannot_go(self):
        log = ((("room", 1),), (((0, "enter", 1, None), (0, "leave", 1, None)), ((0, "enter", 2, None),)))
        self.tells(((0, 0), (0, 1), (1, 0)), first_row, log)
        self.tells(False, is_row, log, ((0, 0), (1, 0), (0, 1)))
        self.tells(True, is_row, log, ((0, 0), (0, 1), (1, 0)))
        self.tells(None, first_row, (("set",), (((0, "drop", 1, None),), ((0, "join", 2, None),))))

    def test_beside_trying_all(self):
        told = set()
        for log in small():
            rows = logfacts.rows(log)
            self.tells(rows != [], is_told, log)
            self.tells(rows[0] if rows else None, first_row, log)
            for turn in logfacts.turns(log)[:60]:
                self.tells(turn in rows, is_row, log, turn)
            told.add((rows != [], len(log[1])))
        self.assertEqual(len(told), 8)

    def test_each_thing_of_one_that_is_told(self):
        apart = 0
        for log in small():
            each = all(logfacts.rows(logfacts.of_thing(log, thing)) for thing in range(len(log[0])))
            if is_told(log):
                self.assertTrue(each)
            else:
                apart += each
        self.assertGreater(apart, 0)

    def test_eight_steps(self):
        chance = random.Random(282)
        told = set()
        for at in range(150):
            log = told_one(chance, chance.choice(MIXES), 8, 4, 5)
            rows = logfacts.rows(log)
            self.tells(rows[0] if rows else None, first_row, log)
            told.add((sum(map(len, log[1])), rows != []))
        self.assertTrue({(8, True), (8, False)} <= told)
        hands = tuple(((0, "put", at, None), (0, "take", None, 3 - at)) for at in range(4))
        self.tells(True, is_told, (("stack",), hands))
        self.tells(((0, 0), (0, 1)), first_row, (("stack",), (((0, "put", 1, None), TAKE),)))

    def test_odd_things_are_no_rows(self):
        one = (("queue",), ((PUT,),))
        for thing in ODD:
            self.tells(alike(thing, ((0, 0),)), is_row, one, thing)
            self.tells(alike(thing, ()), is_row, EMPTY, thing)
            self.tells(alike(thing, (0, 0)), is_row, one, (thing,))
            self.tells(alike(thing, 0), is_row, one, ((thing, 0),))
            self.tells(alike(thing, 0), is_row, one, ((0, thing),))
        for row in (((0, 0), (0, 0)), ((0, 0), (0, 1)), ((0, 0, 0),), [(0, 0)], ([0, 0],), ((0,),), ((1, 0),), ((0, 1),),
                    ((False, 0),), ((0, False),), ((-1, 0),), ((0, -1),), "00", ((0, 0),) * 9):
            self.tells(False, is_row, one, row)
        self.tells(True, is_row, one, Row((Row((Integer(0), Integer(0))),)))


class TestLogBy(Checks, unittest.TestCase):
    HISTORY = (("queue", "cell"), (
        (0, 3, 0, "put", 1, None), (1, 2, 1, "read", None, None), (4, 9, 1, "write", 5, None), (5, 6, 0, "take", None, 1),
        (7, 8, 0, "take", None, None)))

    def test_some(self):
        calls = self.HISTORY[1]
        for hands in (((0, 2), (1, 3, 4)), ((1, 2), (), (0, 3), (4,)), ((0, 3, 4), (1, 2)), ((), (0, 2), (), (1, 3, 4))):
            wanted = (self.HISTORY[0], tuple(tuple(calls[number][2:] for number in hand) for hand in hands))
            self.tells(wanted, log_by, self.HISTORY, hands)
            self.tells(True, is_told, wanted)
            self.assertIs(need_log(wanted), wanted)
        for hands in range(1, 5):
            self.tells((("cell",), ((),) * hands), log_by, (("cell",), ()), ((),) * hands)

    def test_what_is_explained_is_told(self):
        chance = random.Random(283)
        seen = set()
        for sorts in (("cell", "queue"), ("stack",), (("room", 1), "counter"), ("heads", "set", "tickets")):
            for history in mixed(chance, sorts, 6, 3, 250):
                rows = [[] for _ in range(4)]
                for number in range(len(history[1])):
                    free = [row for row in rows if not row or history[1][row[-1]][1] < history[1][number][0]]
                    if free:
                        chance.choice(free).append(number)
                hands = tuple(tuple(row) for row in rows)
                if sum(map(len, hands)) < len(history[1]):
                    self.refuses(BadHands, hands, log_by, history, hands)
                    continue
                log = log_by(history, hands)
                explained = oracle.explanations(history) != []
                if explained:
                    self.tells(True, is_told, log)
                seen.add((explained, is_told(log)))
        self.assertEqual(seen, {(True, True), (False, True), (False, False)})

    def test_hands_that_are_none(self):
        good = ((0, 2), (1, 3, 4))
        rows = [hands for many in (1, 2, 3) for hands in product([(), (0,), (0, 2), (1, 3, 4), (1,), (0, 3, 4)], repeat=many)]
        for hands in rows:
            if sorted(number for hand in hands for number in hand) == [0, 1, 2, 3, 4]:
                self.assertEqual(log_by(self.HISTORY, hands)[0], self.HISTORY[0])
            else:
                self.refuses(BadHands, hands, log_by, self.HISTORY, hands)
        for hands in ((), ((),) * 5, good + ((),) * 3, list(good), ([0, 2], (1, 3, 4)), ((2, 0), (1, 3, 4)), ((0, 1), (2,), (3, 4)),
                      ((0, 2), (1, 3, 4, 5)), ((0, 2), (1, 3)), ((0, 2), (1, 3, 4), (4,)), ((0, 2), (True, 3, 4)), ((0, 2, 3), (1, 4)),
                      ((0, 2), None), ((0, 2), "134"), ((-1, 0, 2), (1, 3, 4)), ((False, 2), (1, 3, 4)), ((0, 0, 2), (1, 3, 4))):
            self.refuses(BadHands, hands, log_by, self.HISTORY, hands)
        one = (("queue",), ((0, 1, 0, "put", 1, None),))
        self.refuses_odd(BadHands, lambda thing: alike(thing, ((0,),)), log_by, (one,))
        self.refuses_odd(BadHands, lambda thing: alike(thing, ((),)), log_by, ((("queue",), ()),))
        for thing in ODD:
            if not alike(thing, (0,)):
                self.refuses(BadHands, (thing,), log_by, one, (thing,))
            if not alike(thing, 0):
                self.refuses(BadHands, ((thing,),), log_by, one, ((thing,),))
        self.refuses_histories(log_by, None)

    def test_calls_of_a_hand_that_overlap(self):
        history = (("queue",), ((0, 2, 0, "put", 1, None), (1, 3, 0, "take", None, 1)))
        self.refuses(BadHands, ((0, 1),), log_by, history, ((0, 1),))
        self.tells((("queue",), ((PUT,), (TAKE,))), log_by, history, ((0,), (1,)))
        self.tells((("queue",), ((TAKE,), (), (PUT,))), log_by, history, ((1,), (), (0,)))

    def test_eight_calls_and_nine(self):
        for many in (8, 9, 10):
            history = (("queue",), behind([("put", at, None) for at in range(many)]))
            hands = (tuple(range(0, many, 2)), tuple(range(1, many, 2)))
            if many == 8:
                wanted = tuple(tuple((0, "put", at, None) for at in hand) for hand in hands)
                self.tells((("queue",), wanted), log_by, history, hands)
            else:
                self.refuses(TooMany, 8, log_by, history, hands)
            for wrong in (None, (), hands[:1], ((1, 0),), (tuple(range(many + 1)),)):
                self.refuses(BadHands, wrong, log_by, history, wrong)
        history = (("queue",), together([("put", at, None) for at in range(9)]))
        self.refuses(BadHands, (tuple(range(9)),), log_by, history, (tuple(range(9)),))

    def test_what_is_told_is_plain(self):
        history = ((Text("queue"),), ((0, 1, 0, Text("put"), Integer(1), None),))
        self.tells((("queue",), ((PUT,),)), log_by, history, Row((Row((Integer(0),)),)))


if __name__ == "__main__":
    unittest.main()
