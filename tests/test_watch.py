"""A watch that is led: [55] to [58]."""

import inspect
import random
import unittest

import oracle
from checks import Checks, alike, fields, is_plain
from samples import ODD, TOP, Integer, Row, Same, Text
from shortbars.calls import need_history
from shortbars.errors import BadGiven, BadNumber, BadSorts, BadThing, BadTold, BadWord, NothingLeft, TooMany
from shortbars.watch import Watch
from watchfacts import TOLDS, Leader, is_good, is_good_by_trying

SORTS = (("cell",), ("queue",), ("stack",), ("heads",), ("counter",), ("tickets",), ("set",), (("room", 1),), (("room", 2),),
         ("queue", "set"), ("cell", "counter", "stack", ("room", 1)), ("tickets", "heads"))
NEVER_WRONG = ("write", "put", "add", "join", "drop", "enter", "leave")


def shown(watch):
    """All that a watch tells of itself."""
    answers = tuple((number, watch.answers(number)) for number in watch.open_calls)
    return watch.open_calls, watch.history, watch.is_good, watch.went_bad, len(watch), answers


def led(*steps, sorts=("queue",)):
    """A watch behind these steps: triples begin, pairs end."""
    watch = Watch(sorts)
    for step in steps:
        if len(step) == 3:
            watch.begin(*step)
        else:
            watch.end(*step)
    return watch


class TestWatch(Checks, unittest.TestCase):
    def test_nothing_has_begun(self):
        for sorts in SORTS:
            watch = Watch(sorts)
            self.assertTrue(alike(shown(watch), ((), (sorts, ()), True, None, 0, ())))

    def test_some(self):
        watch = Watch(("queue",))
        self.tells(0, watch.begin, 0, "put", 5)
        self.tells(1, watch.begin, 0, "take", None)
        self.tells((None,), watch.answers, 0)
        self.tells((None, 5), watch.answers, 1)
        self.assertTrue(alike(watch.open_calls, (0, 1)))
        self.tells(None, watch.end, 1, 5)
        self.assertTrue(alike(watch.history, (("queue",), ((1, 2, 0, "take", None, 5),))))
        self.assertIs(watch.is_good, True)
        self.assertTrue(alike(watch.open_calls, (0,)))
        self.assertTrue(alike(len(watch), 3))
        self.tells(2, watch.begin, 0, "take", None)
        self.tells((None,), watch.answers, 2)
        self.tells(False, watch.would, 2, 5)
        self.tells(None, watch.end, 2, 6)
        self.assertTrue(alike((watch.is_good, watch.went_bad), (False, 4)))
        self.tells((), watch.answers, 0)
        self.tells(False, watch.would, 0, None)
        self.tells(None, watch.end, 0, None)
        self.assertTrue(alike((watch.is_good, watch.went_bad, watch.open_calls), (False, 4, ())))
        self.assertTrue(alike(watch.history, (("queue",), ((0, 5, 0, "put", 5, None), (1, 2, 0, "take", None, 5),
                                                           (3, 4, 0, "take", None, 6)))))
        need_history(watch.history)

    def test_an_open_call_may_have_had_its_effect(self):
        for sorts, steps, good in (
                (("cell",), [(0, "write", 5), (0, "read", None), (1, 5)], True),
                (("cell",), [(0, "write", 5), (0, "read", None), (1, 5), (0, "read", None), (2, None)], False),
                (("cell",), [(0, "write", 5), (0, "read", None), (1, None)], True),
                (("queue",), [(0, "put", 5), (0, None), (0, "take", None), (0, "put", 6), (2, None), (0, "take", None), (3, 6)], True),
                (("queue",), [(0, "put", 5), (0, None), (0, "put", 6), (1, None), (0, "take", None), (2, 6)], False),
                # The open take may have taken 5.
                (("queue",), [(0, "put", 5), (0, None), (0, "put", 6), (1, None), (0, "take", None), (0, "take", None), (3, 6)], True),
                (("queue",), [(0, "put", 5), (0, None), (0, "take", None), (1, None)], False),
                (("queue",), [(0, "put", 5), (0, None), (0, "take", None), (0, "take", None), (1, None)], True),
                (("stack",), [(0, "put", 5), (0, None), (0, "put", 6), (1, None), (0, "take", None), (2, 5)], False),
                (("stack",), [(0, "put", 5), (0, None), (0, "put", 6), (1, None), (0, "take", None), (0, "take", None), (2, 5)], True),
                (("heads",), [(0, "put", 6), (0, None), (0, "put", 5), (1, None), (0, "take", None), (2, 6)], False),
                (("heads",), [(0, "put", 6), (0, None), (0, "put", 5), (1, None), (0, "take", None), (0, "take", None), (3, 6)], True),
                (("counter",), [(0, "add", None), (0, "count", None), (1, 1)], True),
                (("counter",), [(0, "add", None), (0, "count", None), (1, 2)], False),
                (("tickets",), [(0, "draw", None), (0, "draw", None), (1, 1)], True),
                (("tickets",), [(0, "draw", None), (0, "draw", None), (1, 2)], False),
                (("tickets",), [(0, "draw", None), (0, 1), (0, "draw", None)], False),
                (("set",), [(0, "join", 5), (0, "has", 5), (1, 1)], True),
                (("set",), [(0, "join", 5), (0, "has", 5), (1, 1), (0, "has", 5), (2, 0)], False),
                (("set",), [(0, "join", 5), (0, "drop", 5), (0, "has", 5), (2, 1), (0, "has", 5), (3, 0)], True),
                (("set",), [(0, "drop", 5), (0, None)], False),
                (("set",), [(0, "join", 5), (0, "drop", 5), (1, None), (0, "has", 5), (2, 0)], True),
                ((("room", 1),), [(0, "enter", 5), (0, "leave", 5), (1, None)], True),
                ((("room", 1),), [(0, "enter", 5), (0, None), (0, "enter", 6), (1, None)], False),
                ((("room", 1),), [(0, "enter", 5), (0, None), (0, "leave", 5), (0, "enter", 6), (2, None)], True),
                ((("room", 1),), [(0, "leave", 5), (0, None)], False)):
            watch = led(*steps, sorts=sorts)
            self.assertIs(watch.is_good, good, (sorts, steps))
            self.assertEqual(is_good_by_trying(sorts, self.calls_of(steps)), good)

    def calls_of(self, steps):
        calls = []
        for moment, step in enumerate(steps):
            if len(step) == 3:
                calls.append((moment, None) + step + (None,))
            else:
                calls[step[0]] = calls[step[0]][:1] + (moment,) + calls[step[0]][2:5] + step[1:]
        return calls

    def test_the_two_ways_of_telling_it_come_to_the_same(self):
        chance = random.Random(650)
        told = {True: 0, False: 0}
        for at in range(240):
            sorts = SORTS[at % len(SORTS)]
            leader = Leader(chance, Watch(sorts), sorts, 4, 2)
            for _ in range(7):
                if leader.step() and is_good(sorts, leader.calls) != is_good_by_trying(sorts, leader.calls):
                    self.fail((sorts, leader.calls))
            told[leader.watch.is_good] += 1
        self.assertGreater(min(told.values()), 30)

    def test_behind_each_begin_and_each_end(self):
        told = {}
        for at in range(360):
            chance = random.Random(660 + at)
            sorts = SORTS[at % len(SORTS)]
            watch = Watch(sorts)
            leader = Leader(chance, watch, sorts, chance.choice((4, 6)), chance.choice((2, 8)))
            went_bad = None
            while leader.step():
                good = is_good(sorts, leader.calls)
                if not good and went_bad is None:
                    went_bad = leader.moments - 1
                    # It is at an end that it goes bad.
                    self.assertIn(went_bad, [call[1] for call in leader.calls])
                self.assertEqual(good, went_bad is None)
                self.assertTrue(alike(watch.is_good, good), leader.calls)
                self.assertTrue(alike(watch.went_bad, went_bad))
                self.assertTrue(alike(watch.open_calls, tuple(leader.opens())))
                self.assertTrue(alike(watch.history, leader.history()))
                self.assertTrue(alike(len(watch), leader.moments))
                self.assertTrue(is_plain(shown(watch)))
                told[sorts, good] = told.get((sorts, good), 0) + 1
            if not leader.opens():
                self.assertEqual(watch.is_good, oracle.explanations(watch.history) != [])
        self.assertEqual(len(told), 2 * len(SORTS))
        self.assertGreater(min(told.values()), 10)

    def test_answers_and_would(self):
        seen = set()
        for at in range(180):
            chance = random.Random(1100 + at)
            sorts = SORTS[at % len(SORTS)]
            watch = Watch(sorts)
            leader = Leader(chance, watch, sorts, 4 + at % 2, 8)
            while leader.step():
                for number in leader.opens():
                    word = leader.calls[number][3]
                    wanted = tuple(told for told in TOLDS.get(word, (None,)) if is_good(sorts, leader.with_end(number, told)))
                    self.tells(wanted, watch.answers, number)
                    seen.add((word, min(len(wanted), 2), watch.is_good))
                    for told in TOLDS.get(word, (None,)):
                        before = shown(watch)
                        self.tells(told in wanted, watch.would, number, told)
                        self.assertTrue(alike(shown(watch), before))
                    # The facts of [57].
                    if watch.is_good and word in NEVER_WRONG:
                        self.assertIn(wanted, ((None,), ()) if word in ("enter", "leave", "join", "drop") else ((None,),))
                    elif watch.is_good:
                        self.assertTrue(wanted)
        for word in ("read", "take", "count", "has"):
            self.assertTrue({(word, 1, True), (word, 2, True), (word, 0, False)} <= seen)
        for word in NEVER_WRONG:
            self.assertTrue({(word, 1, True), (word, 0, False)} <= seen)
        # A join can always be behind all else.
        self.assertTrue({(word, 0, True) for word in ("enter", "leave", "drop")} <= seen)

    def test_answers_of_what_is_put_by_open_calls(self):
        watch = led((0, "take", None), (0, "put", TOP), (0, "put", 3), (0, "put", 7), (3, None))
        self.tells((None, 3, 7, TOP), watch.answers, 0)
        watch = led((1, "read", None), (1, "write", 9), (0, "write", 1), (1, "write", 2), sorts=("cell", "cell"))
        self.tells((None, 2, 9), watch.answers, 0)

    def test_as_much_as_there_can_be_counted(self):
        watch = led(*[(0, "add", None)] * 9, (0, "count", None), sorts=("counter",))
        self.tells(tuple(range(10)), watch.answers, 9)
        for number in range(9):
            watch.end(number, None)
        self.tells(tuple(range(10)), watch.answers, 9)
        watch = led(*[(0, "draw", None)] * 10, sorts=("tickets",))
        self.tells(tuple(range(10)), watch.answers, 4)
        watch.end(4, 9)
        self.assertIs(watch.is_good, True)
        self.tells(tuple(range(9)), watch.answers, 0)
        watch.end(3, TOP)
        self.assertIs(watch.is_good, False)

    def test_draws_that_began_behind_others(self):
        # What began behind an end cannot tell less.
        watch = led((0, "draw", None), (0, "draw", None), (0, 1), (0, "draw", None), sorts=("tickets",))
        self.tells((0,), watch.answers, 1)
        self.tells((2,), watch.answers, 2)
        watch.end(2, 2)
        self.assertIs(watch.is_good, True)
        watch.undo()
        watch.end(1, 2)
        self.assertEqual((watch.is_good, watch.went_bad), (False, 4))

    def test_it_stays_bad(self):
        for at in range(60):
            chance = random.Random(1400 + at)
            sorts = SORTS[at % len(SORTS)]
            watch = Watch(sorts)
            leader = Leader(chance, watch, sorts, 10, 2)
            went_bad = None
            while leader.step():
                if went_bad is None:
                    went_bad = watch.went_bad
                else:
                    self.assertEqual((watch.is_good, watch.went_bad), (False, went_bad))
                    for number in watch.open_calls:
                        self.tells((), watch.answers, number)
                        self.tells(False, watch.would, number, TOLDS.get(leader.calls[number][3], (None,))[0])

    def test_ten_calls(self):
        # Many takes that are open could have taken what is put in many ways.
        for sort in ("queue", "stack", "heads"):
            watch = led(*[(0, "put", at) for at in range(5)], *[(at, None) for at in range(5)], *[(0, "take", None)] * 5, sorts=(sort,))
            self.tells((0, 1, 2, 3, 4), watch.answers, 5)
            watch.end(9, 3)
            self.assertIs(watch.is_good, True)
            watch.end(8, None)
            self.assertIs(watch.is_good, False)
        puts = led(*[(0, "put", at) for at in range(9)], (0, "take", None))
        self.tells((None,) + tuple(range(9)), puts.answers, 9)

    def test_what_is_told_is_plain(self):
        watch = Watch(Row((Text("queue"), Row((Text("room"), Integer(2))))))
        self.tells(0, watch.begin, Integer(0), Text("put"), Integer(5))
        self.tells(1, watch.begin, Integer(0), Text("take"), None)
        self.tells(2, watch.begin, Integer(1), Text("enter"), Integer(5))
        self.tells((None, 5), watch.answers, Integer(1))
        self.tells(True, watch.would, Integer(1), Integer(5))
        self.tells(None, watch.end, Integer(1), Integer(5))
        self.tells(None, watch.end, Integer(2), None)
        self.assertTrue(alike(watch.history, (("queue", ("room", 2)), ((1, 3, 0, "take", None, 5), (2, 4, 1, "enter", 5, None)))))
        self.tells(None, watch.undo, Integer(2))
        self.assertTrue(alike(watch.open_calls, (0, 1, 2)))

    def test_two_watches_have_nothing_in_common(self):
        sorts = ("set", "cell")
        one, two = Watch(sorts), Watch(sorts)
        one.begin(0, "join", 5)
        one.end(0, None)
        self.assertTrue(alike(shown(two), ((), (sorts, ()), True, None, 0, ())))
        two.begin(1, "write", 5)
        self.assertTrue(alike(shown(one), ((), (sorts, ((0, 1, 0, "join", 5, None),)), True, None, 2, ())))


class TestUndo(Checks, unittest.TestCase):
    def test_of_one_and_of_many(self):
        for at in range(120):
            chance = random.Random(1500 + at)
            sorts = SORTS[at % len(SORTS)]
            watch = Watch(sorts)
            leader = Leader(chance, watch, sorts, 6, 3)
            kept = [shown(watch)]
            while leader.step():
                kept.append(shown(watch))
            steps = self.steps_of(leader.calls)
            while len(kept) > 1:
                many = chance.randrange(1, len(kept))
                self.tells(None, watch.undo, many)
                last = kept[-1 - many]
                self.assertTrue(alike(shown(watch), last))
                # Led on as before it tells the same again.
                for step in steps[len(watch):len(kept) - 1]:
                    watch.begin(*step) if len(step) == 3 else watch.end(*step)
                self.assertTrue(alike(shown(watch), kept[-1]))
                self.assertIsNone(watch.undo(many=many))
                self.assertTrue(alike(shown(watch), last))
                kept = kept[:-many]
            self.assertTrue(alike(shown(watch), shown(Watch(sorts))))

    def steps_of(self, calls):
        moments = {}
        for number, call in enumerate(calls):
            moments[call[0]] = call[2:5]
            if call[1] is not None:
                moments[call[1]] = (number, call[5])
        return [moments[moment] for moment in sorted(moments)]

    def test_of_a_begin_an_end_and_the_end_that_made_it_bad(self):
        watch = led((0, "put", 5), (0, None), (0, "take", None))
        self.tells(None, watch.undo)
        self.assertTrue(alike((watch.open_calls, len(watch)), ((), 2)))
        self.tells(1, watch.begin, 0, "take", None)
        watch.end(1, 6)
        self.assertEqual((watch.is_good, watch.went_bad), (False, 3))
        watch.begin(0, "put", 6)
        self.assertEqual((watch.is_good, watch.went_bad), (False, 3))
        self.tells(None, watch.undo)
        self.assertEqual((watch.is_good, watch.went_bad), (False, 3))
        self.tells(None, watch.undo)
        self.assertTrue(alike((watch.is_good, watch.went_bad, watch.open_calls, len(watch)), (True, None, (1,), 3)))
        self.tells((5,), watch.answers, 1)
        self.tells(None, watch.undo, 3)
        self.assertTrue(alike(shown(watch), shown(Watch(("queue",)))))
        # What was given may be given again.
        self.tells(0, watch.begin, 0, "put", 5)

    def test_refusals(self):
        watch = led((0, "put", 5), (0, None), (0, "take", None))
        before = shown(watch)
        self.refuses_odd_and_stays(BadNumber, lambda thing: type(thing) is int and 1 <= thing <= 20, watch, watch.undo)
        for many in (0, -1, 21, 10 ** 59, True, None, "1", (1,)):
            self.refuses(BadNumber, many, watch.undo, many)
            with self.assertRaises(BadNumber):
                watch.undo(many=many)
        for many in (4, 5, 19, 20):
            self.refuses(NothingLeft, many, watch.undo, many)
            with self.assertRaises(NothingLeft) as caught:
                watch.undo(many=many)
            self.assertEqual(fields(caught.exception), (NothingLeft, {"many": many}))
        self.assertTrue(alike(shown(watch), before))
        self.refuses(NothingLeft, 1, Watch(("set",)).undo)
        self.refuses(BadNumber, 0, Watch(("set",)).undo, 0)
        full = led(*[(0, "put", at) for at in range(10)], *[(at, None) for at in range(10)])
        self.assertEqual(len(full), 20)
        self.tells(None, full.undo, 20)
        self.assertEqual(len(full), 0)

    def refuses_odd_and_stays(self, error, is_right, watch, method):
        before = shown(watch)
        for thing in ODD:
            if not is_right(thing):
                self.refuses(error, thing, method, thing)
        self.assertTrue(alike(shown(watch), before))


class TestRefusals(Checks, unittest.TestCase):
    def test_sorts(self):
        self.refuses_odd(BadSorts, lambda thing: False, Watch, ())
        for sorts in ((), ("cell",) * 5, ["cell"], "cell", ("room",), (("room", 0),), (("room", 10),), (("room", True),), ("x",),
                      (None,), (("cell",),), (["room", 1],), ("cell", None), (Same(),), (("room", 1, 1),), (b"cell",)):
            self.refuses(BadSorts, sorts, Watch, sorts)
        for sorts in (("cell",) * 4, (("room", 9), "tickets")):
            self.assertEqual(Watch(sorts).history, (sorts, ()))

    def test_begin(self):
        watch = led((0, "put", 5), (0, None), (0, "put", 6), (1, "join", 5), (1, "has", 5), sorts=("queue", "set", ("room", 1)))
        before = shown(watch)
        for thing in ODD:
            if not (type(thing) is int and 0 <= thing < 3):
                self.refuses(BadThing, thing, watch.begin, thing, thing, thing)
            self.refuses(BadWord, thing, watch.begin, 0, thing, thing)
            if thing is not None:
                self.refuses(BadGiven, thing, watch.begin, 0, "take", thing)
            if not (type(thing) is int and 0 <= thing <= TOP):
                for place, word in ((0, "put"), (1, "join"), (1, "drop"), (1, "has"), (2, "enter"), (2, "leave")):
                    self.refuses(BadGiven, thing, watch.begin, place, word, thing)
        for place, word in ((0, "join"), (1, "put"), (2, "join"), (2, "room"), (0, "Put"), (0, "put "), (0, "write"), (0, "")):
            self.refuses(BadWord, word, watch.begin, place, word, 5)
        # What is given already, by a call that has ended or by an open one.
        for place, word, given in ((0, "put", 5), (0, "put", 6), (1, "join", 5)):
            self.refuses(BadGiven, given, watch.begin, place, word, given)
        self.assertTrue(alike(shown(watch), before))
        for place, word, given in ((1, "has", 5), (1, "drop", 5), (2, "enter", 5), (2, "leave", 5), (1, "join", 6), (0, "put", 7)):
            self.assertEqual(watch.begin(place, word, given), len(watch) - 2)
        self.refuses(BadGiven, 5, watch.begin, 2, "enter", 5)
        others = Watch(("cell", "counter", "tickets"))
        for place, word, given in ((0, "read", 5), (0, "write", None), (1, "add", 0), (1, "count", 0), (2, "draw", 0)):
            self.refuses(BadGiven, given, others.begin, place, word, given)
        others.begin(0, "write", 0)
        self.refuses(BadGiven, False, others.begin, 0, "write", False)
        self.refuses(BadGiven, 0, others.begin, 0, "write", 0)

    def test_an_eleventh_call(self):
        watch = led(*[(0, "put", at) for at in range(10)], (0, None), sorts=("queue", "cell"))
        before = shown(watch)
        self.refuses(TooMany, 10, watch.begin, 0, "put", 10)
        self.refuses(TooMany, 10, watch.begin, 0, "take", None)
        self.refuses(TooMany, 10, watch.begin, 1, "read", None)
        # All else is refused ahead of it.
        self.refuses(BadThing, 2, watch.begin, 2, "put", 10)
        self.refuses(BadWord, "read", watch.begin, 0, "read", None)
        self.refuses(BadGiven, 9, watch.begin, 0, "put", 9)
        self.assertTrue(alike(shown(watch), before))
        watch.undo(2)
        self.tells(9, watch.begin, 0, "put", 10)

    def test_end_would_and_answers(self):
        watch = led((0, "put", 5), (0, None), (0, "take", None), (1, "has", 5), (0, "put", 6), sorts=("queue", "set"))
        before = shown(watch)
        self.assertEqual(watch.open_calls, (1, 2, 3))
        for thing in ODD + (0, 4, 5, -1, Same(), True):
            if type(thing) is int and thing in (1, 2, 3):
                continue
            for told in (None, 5, "x"):
                self.refuses(BadNumber, thing, watch.end, thing, told)
                self.refuses(BadNumber, thing, watch.would, thing, told)
            self.refuses(BadNumber, thing, watch.answers, thing)
        for method in (watch.end, watch.would):
            for thing in ODD:
                if not (thing is None or (type(thing) is int and 0 <= thing <= TOP)):
                    self.refuses(BadTold, thing, method, 1, thing)
                if not (type(thing) is int and thing in (0, 1)):
                    self.refuses(BadTold, thing, method, 2, thing)
                if thing is not None:
                    self.refuses(BadTold, thing, method, 3, thing)
        self.assertTrue(alike(shown(watch), before))
        others = led((0, "count", None), (1, "draw", None), (2, "read", None), (2, "write", 1), (0, "add", None),
                     sorts=("counter", "tickets", "cell"))
        for thing in ODD:
            if not (type(thing) is int and 0 <= thing <= TOP):
                self.refuses(BadTold, thing, others.end, 0, thing)
                self.refuses(BadTold, thing, others.end, 1, thing)
                if thing is not None:
                    self.refuses(BadTold, thing, others.end, 2, thing)
            if thing is not None:
                self.refuses(BadTold, thing, others.end, 3, thing)
                self.refuses(BadTold, thing, others.end, 4, thing)
        # A bad one refuses alike.
        watch.end(1, 99)
        self.assertIs(watch.is_good, False)
        before = shown(watch)
        for method in (watch.end, watch.would):
            self.refuses(BadNumber, 1, method, 1, None)
            self.refuses(BadTold, None, method, 2, None)
        self.refuses(BadNumber, 0, watch.answers, 0)
        self.assertTrue(alike(shown(watch), before))

    def test_what_is_told_is_the_callers_own(self):
        watch = led((0, "put", 5), (0, "take", None))
        opens, history, answers = watch.open_calls, watch.history, watch.answers(1)
        watch.end(1, 5)
        self.assertEqual((opens, history, answers), ((0, 1), (("queue",), ()), (None, 5)))

    def test_the_interface(self):
        for name, names in (("begin", "self thing word given"), ("end", "self number told"), ("answers", "self number"),
                            ("would", "self number told"), ("undo", "self many"), ("__len__", "self"), ("__init__", "self sorts")):
            method = vars(Watch)[name]
            self.assertEqual(list(inspect.signature(method).parameters), names.split())
        self.assertEqual(inspect.signature(Watch.undo).parameters["many"].default, 1)
        for name in ("open_calls", "history", "is_good", "went_bad"):
            self.assertIsInstance(vars(Watch)[name], property)
            with self.assertRaises(AttributeError):
                setattr(Watch(("cell",)), name, ())
        self.assertEqual((Watch.__module__, Watch.__name__), ("shortbars.watch", "Watch"))


if __name__ == "__main__":
    unittest.main()
