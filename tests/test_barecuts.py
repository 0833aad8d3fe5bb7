"""Bare places, and histories cut in two: [61]."""

import random
import unittest

import oracle
from checks import Checks, alike
from samples import ALL_SORTS, Integer, Row, behind, grown, mixed, spoiled, together
from shortbars.barecuts import bare_places, cut_in_two
from shortbars.calls import need_history
from shortbars.errors import BadPlace
from shortbars.thin import quiet_places

SORTS = ("queue", "stack", "heads", "counter", "tickets", "set", ("room", 1), ("room", 2))
GOOD = tuple(sort for sort in ALL_SORTS if sort != "cell")
ROW = [("put", 5, None), ("take", None, 5), ("take", None, None), ("put", 6, None), ("take", None, 6), ("put", 7, None)]


def small(seed=840):
    for at, sort in enumerate(SORTS):
        chance = random.Random(seed + at)
        yield (sort,), ()
        yield from mixed(chance, (sort,), 6, 3, 60)
        for _ in range(150):
            history = grown(chance, (sort,), 7, 4, chance.choice((1, 2, 6, 12)))
            yield history if chance.randrange(2) else spoiled(chance, history)


def bare_by_the_words(history):
    (sort,), calls = history
    bare = []
    for place in range(1, len(calls)):
        first = calls[:place]
        if any(call[1] > calls[place][0] for call in first):
            continue
        gone = [call[4] if call[4] is not None else call[5] for call in first if call[3] in ("take", "leave", "drop")]
        if sort in ("counter", "tickets") or all(call[4] in gone for call in first if call[3] in ("put", "enter", "join")):
            bare.append(place)
    return tuple(bare)


def cut_by_the_words(history, place):
    (sort,), calls = history
    less = {"counter": len([call for call in calls[:place] if call[3] == "add"]), "tickets": place}.get(sort, 0)
    rest = []
    for call in calls[place:]:
        if call[3] in ("count", "draw"):
            if call[5] < less:
                return ((sort,), calls[:place]), None
            call = call[:5] + (call[5] - less,)
        rest.append(call)
    return ((sort,), calls[:place]), ((sort,), tuple(rest))


class TestBareCuts(Checks, unittest.TestCase):
    def test_some(self):
        history = (("queue",), behind(ROW))
        self.tells((2, 3, 5), bare_places, history)
        self.tells(((("queue",), behind(ROW)[:3]), (("queue",), behind(ROW)[3:])), cut_in_two, history, 3)
        self.tells(((("queue",), behind(ROW)[:5]), (("queue",), behind(ROW)[5:])), cut_in_two, history, Integer(5))
        for place in (0, 1, 4, 6, 7, -1, True, None, "2", (2,)):
            self.refuses(BadPlace, place, cut_in_two, history, place)
        # A take ahead of its put counts as well; one that is behind the place does not.
        self.tells((1, 2), bare_places, (("queue",), behind([("take", None, 5), ("put", 5, None), ("put", 6, None), ("take", None, 6)])))
        counter = (("counter",), behind([("add", None, None), ("count", None, 1), ("add", None, None), ("count", None, 2)]))
        self.tells((1, 2, 3), bare_places, counter)
        self.tells(((("counter",), counter[1][:3]), (("counter",), ((6, 7, 0, "count", None, 0),))), cut_in_two, counter, 3)
        tickets = (("tickets",), behind([("draw", None, 0), ("draw", None, 2), ("draw", None, 1)]))
        self.tells((1, 2), bare_places, tickets)
        self.tells(((("tickets",), tickets[1][:1]), (("tickets",), ((2, 3, 0, "draw", None, 1), (4, 5, 0, "draw", None, 0)))),
                   cut_in_two, tickets, 1)
        self.tells(((("tickets",), tickets[1][:2]), None), cut_in_two, tickets, 2)
        few = (("counter",), behind([("add", None, None), ("count", None, 0), ("add", None, None)]))
        self.tells(((("counter",), few[1][:1]), None), cut_in_two, few, 1)
        self.tells(((("counter",), few[1][:2]), (("counter",), few[1][2:])), cut_in_two, few, 2)
        # What only asks, or takes nothing, puts nothing.
        self.tells((1, 2), bare_places, (("set",), behind([("has", 5, 0), ("has", 5, 1), ("join", 5, None)])))
        self.tells((1, 3), bare_places, ((("room", 1),), behind([("leave", 5, None), ("enter", 6, None), ("leave", 6, None),
                                                               ("enter", 5, None)])))

    def test_few_calls(self):
        for sort in GOOD:
            self.tells((), bare_places, ((sort,), ()))
            self.refuses(BadPlace, 0, cut_in_two, ((sort,), ()), 0)
        self.tells((), bare_places, (("queue",), behind([("take", None, None)])))
        self.tells((), bare_places, (("queue",), together([("take", None, None)] * 2)))
        self.tells((1,), bare_places, (("queue",), behind([("take", None, None)] * 2)))
        self.tells(tuple(range(1, 10)), bare_places, (("tickets",), behind([("draw", None, at) for at in range(10)])))

    def test_against_the_words(self):
        seen = set()
        for history in small():
            wanted = bare_by_the_words(history)
            self.tells(wanted, bare_places, history)
            self.assertTrue(set(wanted) <= set(quiet_places(history)))
            for place in range(-1, len(history[1]) + 2):
                if place in wanted:
                    parts = cut_by_the_words(history, place)
                    self.tells(parts, cut_in_two, history, place)
                    for part in parts:
                        if part is not None:
                            need_history(part)
                    seen.add((history[0], parts[1] is None))
                else:
                    self.refuses(BadPlace, place, cut_in_two, history, place)
            seen.add((history[0], len(wanted) < len(quiet_places(history))))
        self.assertTrue({((sort,), False) for sort in SORTS} <= seen)
        self.assertTrue({((sort,), True) for sort in SORTS} <= seen)

    def test_explained_just_if_both_are(self):
        told = set()
        for history in small(860):
            for place in bare_places(history):
                one, two = cut_in_two(history, place)
                both = two is not None and oracle.explanations(one) != [] and oracle.explanations(two) != []
                self.assertEqual(both, oracle.explanations(history) != [], (history, place))
                told.add((history[0], both))
        self.assertEqual(len(told), 2 * len(SORTS))

    def test_what_is_told_is_plain(self):
        own = Row((Row(("queue",)), Row(Row(call) for call in behind(ROW))))
        self.assertTrue(alike(cut_in_two(own, 3), cut_in_two((("queue",), behind(ROW)), 3)))

    def test_refusals(self):
        for function, more in ((bare_places, ()), (cut_in_two, (None,))):
            self.refuses_histories(function, *more)
            self.refuses_sorts(function, GOOD, *more)
        self.refuses_odd(BadPlace, lambda thing: type(thing) is int and thing in (2, 3, 5), cut_in_two, ((("queue",), behind(ROW)),))


if __name__ == "__main__":
    unittest.main()
