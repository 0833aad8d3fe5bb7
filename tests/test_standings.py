"""Standings: what is put, and what the things are then: [48], [51]."""

import random
import unittest

import oracle
import webfacts
from checks import Checks, alike
from samples import ALL_SORTS, ODD, Integer, Row, Same, behind, together
from shortbars.errors import BadStanding, TooMany
from shortbars.standings import count_from, is_live, last_states, standings

FIRST = {"cell": None, "queue": (), "stack": (), "heads": (), "counter": 0, "tickets": 0, "set": ()}
# Two puts that overlap, and a take behind them that told the second one.
SOME = (("queue",), ((0, 3, 0, "put", 5, None), (1, 2, 0, "put", 6, None), (4, 5, 0, "take", None, 6)))
SEVEN = together([("put", at, None) for at in range(7)])
EIGHT = together([("put", at, None) for at in range(8)])


def small(seed=300):
    return webfacts.small(seed, 14)


class TestStandings(Checks, unittest.TestCase):
    def test_some(self):
        self.tells((((), ((),)), ((1,), ((6,),)), ((0, 1), ((6, 5),)), ((0, 1, 2), ((5,),))), standings, SOME)
        for value in standings(SOME):
            self.tells(True, is_live, SOME, value)
            self.tells(1, count_from, SOME, value)
        self.tells((((5,),),), last_states, SOME)
        for value in (((0,), ((5,),)), ((0, 1), ((5, 6),)), ((0, 1, 2), ((6,),)), ((2,), ((),)), ((), ((6,),)), ((1,), ((5,),)),
                      ((0, 1), ((6,),)), ((1,), (6,)), ((1,), ((6,), ())), ((1,), ()), ((1, 0), ((6, 5),))):
            self.tells(False, is_live, SOME, value)
            self.refuses(BadStanding, value, count_from, SOME, value)

    def test_what_a_standing_is_made_of(self):
        self.tells(True, is_live, SOME, Row((Row((Integer(0), 1)), Row((Row((6, Integer(5))),)))))
        self.tells(1, count_from, SOME, Row((Row((Integer(0), 1)), Row((Row((6, Integer(5))),)))))
        for value in ([(1,), ((6,),)], ([1], ((6,),)), ((1,), [(6,)]), ((1,), ([6],)), ((True,), ((6,),)), ((1,), ((6,),), ()),
                      ((1,),), ((1,), (None,)), ((1,), ((Same(),),)), ((Same(),), ((6,),)), ((1,), Same()), (Same(), ((6,),))):
            self.tells(False, is_live, SOME, value)
            self.refuses(BadStanding, value, count_from, SOME, value)
        bits = (("counter",), behind([("add", None, None), ("count", None, 1)]))
        self.tells(True, is_live, bits, ((0,), (1,)))
        for value in (((0,), (True,)), ((False,), (1,)), ((), (False,)), ((), (None,)), ((), ((),)), ((), ("0",))):
            self.tells(False, is_live, bits, value)
        cell = (("cell",), behind([("read", None, None), ("write", 0, None)]))
        self.tells((((), (None,)), ((0,), (None,)), ((0, 1), (0,))), standings, cell)
        for value in (((), (0,)), ((), (False,)), ((0, 1), (False,)), ((0, 1), (None,)), ((0,), ((),))):
            self.tells(False, is_live, cell, value)

    def test_no_calls(self):
        for sort in ALL_SORTS:
            first = ((), (FIRST.get(sort, ()),))
            self.tells((first,), standings, ((sort,), ()))
            self.tells(True, is_live, ((sort,), ()), first)
            self.tells(1, count_from, ((sort,), ()), first)
            self.tells((first[1],), last_states, ((sort,), ()))
            for thing in ODD:
                self.tells(False, is_live, ((sort,), ()), thing)
        self.tells((((), (None, (), 0, ())),), standings, (("cell", "heads", "tickets", ("room", 3)), ()))

    def test_one_that_is_not_explained(self):
        history = (("set",), behind([("join", 1, None), ("has", 1, 0)]))
        self.tells((), standings, history)
        self.tells((), last_states, history)
        for value in (((), ((),)), ((0,), ((1,),)), ((0, 1), ((1,),))):
            self.tells(False, is_live, history, value)
            self.refuses(BadStanding, value, count_from, history, value)

    def test_several_states_of_one_lot(self):
        history = (("stack",), together([("put", 5, None), ("put", 6, None)]))
        self.assertEqual(set(standings(history)), {((), ((),)), ((0,), ((5,),)), ((1,), ((6,),)), ((0, 1), ((5, 6),)),
                                                   ((0, 1), ((6, 5),))})
        self.tells(2, count_from, history, ((), ((),)))
        self.assertEqual(sorted(last_states(history)), [((5, 6),), ((6, 5),)])
        # What is in stands ascending in heads, in a room and in a set, whichever came first.
        for sort, word in (("heads", "put"), (("room", 2), "enter"), ("set", "join")):
            history = ((sort,), together([(word, 6, None), (word, 5, None)]))
            self.tells((((), ((),)), ((0,), ((6,),)), ((1,), ((5,),)), ((0, 1), ((5, 6),))), standings, history)
            self.tells((((5, 6),),), last_states, history)

    def test_by_going_through_all_explanations(self):
        seen = set()
        for history in small():
            wanted = webfacts.live(history)
            found = standings(history)
            self.assertEqual(set(found), set(wanted), history)
            self.assertEqual(len(found), len(wanted))
            keys = [(len(lot), lot) for lot, _ in found]
            self.assertEqual(keys, sorted(keys))
            for standing, ways in wanted.items():
                self.tells(len(ways), count_from, history, standing)
                self.tells(True, is_live, history, standing)
            ends = [states for lot, states in wanted if len(lot) == len(history[1])]
            self.assertEqual(sorted(last_states(history), key=repr), sorted(ends, key=repr))
            self.assertEqual(len(set(last_states(history))), len(last_states(history)))
            seen.add((history[0], wanted != {}, len(ends) > 1))
        explained = {(sorts, some) for sorts, some, _ in seen}
        self.assertEqual(len(explained), 2 * (len(webfacts.SORTS) + len(webfacts.MIXES)))
        self.assertTrue(any(several for _, _, several in seen))

    def test_those_that_cannot_go_on(self):
        seen = 0
        for history in list(small(320))[::3]:
            for standing in webfacts.dead(history):
                self.tells(False, is_live, history, standing)
                self.refuses(BadStanding, standing, count_from, history, standing)
                seen += 1
        self.assertGreater(seen, 100)

    def test_those_near(self):
        chance = random.Random(340)
        seen = set()
        for history in list(small(341))[::2]:
            wanted = webfacts.live(history)
            states = sorted({states for _, states in wanted}, key=repr)
            lots = sorted({lot for lot, _ in wanted})
            for _ in range(8 if wanted else 0):
                near = chance.choice(lots), chance.choice(states)
                self.tells(near in wanted, is_live, history, near)
                seen.add(near in wanted)
        self.assertEqual(seen, {True, False})

    def test_explained_just_if_the_first_one_is_live(self):
        for history in small(360):
            rows = oracle.explanations(history)
            first = ((), oracle.run(history, ())[1])
            self.tells(rows != [], is_live, history, first)
            if rows:
                self.tells(len(rows), count_from, history, first)

    def test_the_steps_of_the_web(self):
        # The count of one is the sum of those of all next ones, and 1 where all are put.
        for history in list(small(380))[::2]:
            found = standings(history)
            for lot, states in found:
                if len(lot) == len(history[1]):
                    self.tells(1, count_from, history, (lot, states))
                    continue
                steps = {row[:1] for row in webfacts.live(history)[lot, states]}
                behind_it = [(tuple(sorted(lot + step)), self.after(history, lot, states, step[0])) for step in steps]
                many = sum(count_from(history, standing) for standing in behind_it)
                self.tells(many, count_from, history, (lot, states))

    def after(self, history, lot, states, number):
        """The states behind a call more: those of a row that comes to this standing, and goes on so."""
        for row in oracle.explanations(history):
            if tuple(sorted(row[:len(lot)])) == lot and row[len(lot)] == number \
                    and oracle.run(history, row[:len(lot)])[1] == states:
                return oracle.run(history, row[:len(lot) + 1])[1]
        return None

    def test_whatever_led_to_one_it_goes_on_alike(self):
        for history in list(small(400))[::2]:
            rows = oracle.explanations(history)
            ways = webfacts.live(history)
            for row in rows[:30]:
                for many in range(len(row) + 1):
                    standing = tuple(sorted(row[:many])), oracle.run(history, row[:many])[1]
                    for rest in ways[standing]:
                        self.assertIn(row[:many] + rest, rows)


class TestRefusals(Checks, unittest.TestCase):
    def test_histories(self):
        for function, more in ((standings, ()), (is_live, (None,)), (count_from, (None,)), (last_states, ())):
            self.refuses_histories(function, *more)

    def test_seven_calls_and_eight(self):
        seven, eight = (("queue",), SEVEN), (("queue",), EIGHT)
        first = ((), ((),))
        self.tells(True, is_live, seven, first)
        self.tells(5040, count_from, seven, first)
        self.assertEqual(len(standings(seven)), sum((1, 7, 42, 210, 840, 2520, 5040, 5040)))
        self.assertEqual(len(last_states(seven)), 5040)
        for value in (first, None, Same(), 0):
            self.refuses(TooMany, 7, standings, eight)
            self.refuses(TooMany, 7, last_states, eight)
            self.refuses(TooMany, 7, is_live, eight, value)
            self.refuses(TooMany, 7, count_from, eight, value)
        for calls in (behind([("draw", None, at) for at in range(8)]), behind([("draw", None, 5) for _ in range(10)])):
            self.refuses(TooMany, 7, standings, (("tickets",), calls))
        seven = (("set", "tickets"), tuple(call[:2] + (1,) + call[3:] for call in behind([("draw", None, at) for at in range(7)])))
        self.assertEqual(len(standings(seven)), 8)
        self.tells((((), 7),), last_states, seven)

    def test_what_is_no_standing(self):
        for thing in ODD:
            self.tells(False, is_live, SOME, thing)
        self.refuses_odd(BadStanding, lambda thing: False, count_from, (SOME,))
        # Of a history without calls things of every kind in each place.
        empty = (("set",), ())
        for thing in ODD:
            for value in ((thing, ((),)), ((), thing), ((), (thing,)), ((thing,), ((),)), (thing, thing)):
                if alike(value, ((), ((),))):
                    self.tells(True, is_live, empty, value)
                else:
                    self.tells(False, is_live, empty, value)
                    self.refuses(BadStanding, value, count_from, empty, value)


if __name__ == "__main__":
    unittest.main()
