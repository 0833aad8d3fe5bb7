"""What one call more could be told, and narrowed histories: [49], [50]."""

import random
import unittest

import oracle
import webfacts
from checks import Checks, alike
from samples import ODD, ONCE, TOP, WORDS, Integer, Row, Same, Text, behind, name_of, ranked, together
from shortbars.answers import all_answers, is_narrowed, with_answer
from shortbars.calls import need_history
from shortbars.errors import BadHistory, BadQuestion, BadTold, TooMany
from shortbars.standings import last_states
from shortbars.sure import sure_pairs

SOME = (("queue", "set"), ((2, 5, 0, "put", 5, None), (3, 4, 0, "put", 6, None), (6, 9, 1, "join", 7, None)))
TEN = (("queue",), behind([("put", at, None) for at in range(10)]))


def spread(history):
    """The history with its moments far from each other, so that others fit between."""
    return history[0], tuple((10 * call[0] + 10, 10 * call[1] + 10) + call[2:] for call in history[1])


def asked(chance, history, late=False):
    """A question, by chance, to a spread history: None where none comes of it."""
    sorts, calls = history
    thing = chance.randrange(len(sorts))
    word = chance.choice(WORDS[name_of(sorts[thing])])
    given = chance.randrange(4) if word in ONCE or word == "has" else None
    if word in ONCE and (thing, word, given) in [call[2:5] for call in calls]:
        return None
    top = max([0] + [call[1] for call in calls]) + 10
    if late:
        return top + 1, top + 2, thing, word, given
    begin, end = sorted(chance.sample([moment for moment in range(top) if moment % 10], 2))
    return begin, end, thing, word, given


def with_one_more(history, question, told):
    return history[0], tuple(sorted(history[1] + (question + (told,),)))


def every_told(word):
    """All that may be tried as TOLD: more than there is of anything."""
    return {"read": (None, 0, 1, 2, 3, 4, 5), "take": (None, 0, 1, 2, 3, 4, 5), "has": (0, 1),
            "count": tuple(range(12)), "draw": tuple(range(12))}.get(word, (None,))


class TestAnswers(Checks, unittest.TestCase):
    def test_some(self):
        self.tells((5, 6), all_answers, SOME, (7, 8, 0, "take", None))
        self.tells((None, 5, 6), all_answers, SOME, (1, 8, 0, "take", None))
        self.tells((None,), all_answers, SOME, (0, 1, 0, "take", None))
        self.tells((0, 1), all_answers, SOME, (7, 8, 1, "has", 7))
        self.tells((1,), all_answers, SOME, (10, 11, 1, "has", 7))
        self.tells((0,), all_answers, SOME, (10, 11, 1, "has", 5))
        self.tells((None,), all_answers, SOME, (10, 11, 1, "drop", 7))
        self.tells((), all_answers, SOME, (0, 1, 1, "drop", 7))
        self.tells((None,), all_answers, SOME, (10, 11, 0, "put", 8))
        self.tells((5, 6), all_answers, SOME, Row((Integer(7), 8, Integer(0), Text("take"), None)))

    def test_no_calls(self):
        for sort, word, given, wanted in (
                ("cell", "read", None, (None,)), ("cell", "write", 5, (None,)), ("queue", "take", None, (None,)),
                ("heads", "put", 5, (None,)), (("room", 1), "enter", 5, (None,)), (("room", 1), "leave", 5, ()),
                ("counter", "count", None, (0,)), ("counter", "add", None, (None,)), ("tickets", "draw", None, (0,)),
                ("set", "has", 5, (0,)), ("set", "join", 5, (None,)), ("set", "drop", 5, ())):
            self.tells(wanted, all_answers, ((sort,), ()), (0, TOP, 0, word, given))
            history = ((sort,), ((0, TOP, 0, word, given, wanted[0] if wanted else None),))
            self.tells(history, with_answer, ((sort,), ()), (0, TOP, 0, word, given), history[1][0][5])

    def test_as_much_as_there_can_be(self):
        history = (("counter", "tickets"), tuple(
            call[:2] + (int(call[3] == "draw"),) + call[3:]
            for call in together([("add", None, None)] * 4 + [("draw", None, 0), ("draw", None, 1)])))
        self.tells((0, 1, 2, 3, 4), all_answers, spread(history), (1, 999, 0, "count", None))
        self.tells((2,), all_answers, spread(history), (1, 999, 1, "draw", None))
        draws = (("tickets",), together([("draw", None, at) for at in (6, 5, 3, 2, 1, 0)]))
        self.tells((4,), all_answers, spread(draws), (1, 999, 0, "draw", None))
        adds = (("counter",), together([("add", None, None)] * 6))
        self.tells((0, 1, 2, 3, 4, 5, 6), all_answers, spread(adds), (1, 999, 0, "count", None))
        puts = (("stack",), together([("put", TOP - at, None) for at in range(6)]))
        self.tells((None,) + tuple(range(TOP - 5, TOP + 1)), all_answers, spread(puts), (1, 999, 0, "take", None))

    def test_each_told_tried(self):
        seen = set()
        chance = random.Random(520)
        for history in webfacts.small(521, 14, 5):
            history = spread(history)
            for question in [asked(chance, history, late) for late in (False, False, True)]:
                if question is None:
                    continue
                wanted = tuple(told for told in every_told(question[3])
                               if oracle.explanations(with_one_more(history, question, told)))
                self.tells(wanted, all_answers, history, question)
                for told in every_told(question[3]):
                    self.tells(with_one_more(history, question, told), with_answer, history, question, told)
                seen.add((question[3], min(len(wanted), 2)))
        self.assertTrue({(word, many) for word in ("read", "take", "has", "count") for many in (0, 1, 2)} <= seen)
        self.assertTrue({(word, many) for words in WORDS.values() for word in words for many in (0, 1)} <= seen)

    def test_the_facts(self):
        chance = random.Random(540)
        none, some = 0, 0
        for history in webfacts.small(541, 10, 6):
            history = spread(history)
            explained = oracle.explanations(history) != []
            for late in (True, True, False, False):
                question = asked(chance, history, late)
                if question is None:
                    continue
                if not explained and (late or question[3] in ("read", "count", "has")):
                    self.tells((), all_answers, history, question)
                    none += 1
                elif explained and late:
                    self.tells(self.at_last_states(history, question), all_answers, history, question)
                    some += 1
        self.assertTrue(none > 100 and some > 100)

    def at_last_states(self, history, question):
        """What the question tells where all is put, each once, None ahead."""
        _, _, thing, word, given = question
        sort = history[0][thing]
        told = set()
        for states in last_states(history):
            state = [states[thing]] if name_of(sort) in ("cell", "counter", "tickets") else list(states[thing])
            goes, answer = oracle.act(sort, state, word, given)
            told |= {answer} if goes else set()
        return tuple(sorted(told, key=lambda answer: (answer is not None, answer or 0)))


class TestWithAnswer(Checks, unittest.TestCase):
    def test_in_its_turn(self):
        # Ahead of all, between two, behind all, by BEGIN alone.
        for begin, end, place in ((0, 1, 0), (0, 99, 0), (8, 99, 3), (10, 11, 3), (7, 8, 3)):
            calls = list(SOME[1])
            calls.insert(place, (begin, end, 0, "take", None, 5))
            self.tells((SOME[0], tuple(calls)), with_answer, SOME, (begin, end, 0, "take", None), 5)
            need_history((SOME[0], tuple(calls)))
        # It need not be one that is explained.
        self.tells((SOME[0], SOME[1] + ((10, 11, 0, "take", None, 99),)), with_answer, SOME, (10, 11, 0, "take", None), 99)
        own = with_answer(SOME, Row((Integer(10), Integer(11), Integer(0), Text("take"), None)), Integer(99))
        self.assertTrue(alike(own, (SOME[0], SOME[1] + ((10, 11, 0, "take", None, 99),))))

    def test_nine_calls_and_ten(self):
        nine = (("queue",), TEN[1][:9])
        self.tells((("queue",), TEN[1][:9] + ((30, 31, 0, "take", None, 5),)), with_answer, nine, (30, 31, 0, "take", None), 5)
        for told in (5, "x", None, True):
            self.refuses(TooMany, 10, with_answer, TEN, (30, 31, 0, "take", None), told)

    def test_tolds(self):
        for word, given, rights in (
                ("take", None, (None,) + tuple(thing for thing in ODD if type(thing) is int and 0 <= thing <= TOP)),
                ("put", 9, (None,))):
            self.refuses_odd(BadTold, lambda thing: any(alike(thing, right) for right in rights), with_answer,
                             (SOME, (10, 11, 0, word, given)))
        self.refuses_odd(BadTold, lambda thing: type(thing) is int and thing in (0, 1), with_answer,
                         (SOME, (10, 11, 1, "has", 7)))
        self.refuses_odd(BadTold, lambda thing: thing is None, with_answer, (SOME, (10, 11, 1, "drop", 7)))
        counter = (("counter", "tickets", "cell", ("room", 2)), ())
        for thing, word, given in ((0, "count", None), (1, "draw", None)):
            self.refuses_odd(BadTold, lambda told: type(told) is int and 0 <= told <= TOP, with_answer,
                             (counter, (10, 11, thing, word, given)))
        for thing, word, given in ((0, "add", None), (2, "write", 0), (3, "enter", 0), (3, "leave", 0)):
            self.refuses_odd(BadTold, lambda told: told is None, with_answer, (counter, (10, 11, thing, word, given)))


class TestRefusals(Checks, unittest.TestCase):
    def test_histories(self):
        self.refuses_histories(with_answer, None, None)
        self.refuses_histories(all_answers, None)

    def test_questions(self):
        good = (10, 11, 1, "has", 7)
        wrong = [
            (), good[:4], good + (None,), list(good), (10, 10) + good[2:], (11, 10) + good[2:], (-1, 11) + good[2:],
            (10, TOP + 1) + good[2:], (True, 11) + good[2:], (0, True) + good[2:], (None, 11) + good[2:], ("10", 11) + good[2:],
            # No moment of another call.
            (2, 11) + good[2:], (5, 11) + good[2:], (0, 9) + good[2:], (0, 3) + good[2:], (6, 8) + good[2:], (4, 6) + good[2:],
            # No such thing, no such word, no such GIVEN.
            (10, 11, 2, "has", 7), (10, 11, -1, "has", 7), (10, 11, True, "has", 7), (10, 11, None, "has", 7),
            (10, 11, 0, "has", 7), (10, 11, 1, "take", None), (10, 11, 1, "Has", 7), (10, 11, 1, None, 7), (10, 11, 1, b"has", 7),
            (10, 11, 1, "has", None), (10, 11, 1, "has", -1), (10, 11, 1, "has", TOP + 1), (10, 11, 1, "has", True),
            (10, 11, 0, "take", 5), (10, 11, 0, "put", None), (10, 11, 0, "put", "5"), (10, 11, 0, ["put"], 5),
            # What is given once already.
            (10, 11, 0, "put", 5), (10, 11, 0, "put", 6), (10, 11, 1, "join", 7), (0, 1, 1, "join", 7),
        ]
        many = (("queue", "set"), behind([("put", at, None) for at in range(7)]))
        for question in wrong:
            self.refuses(BadQuestion, question, with_answer, SOME, question, "x")
            self.refuses(BadQuestion, question, all_answers, SOME, question)
        for thing in ODD:
            self.refuses(BadQuestion, thing, with_answer, SOME, thing, "x")
            self.refuses(BadQuestion, thing, all_answers, SOME, thing)
            self.refuses(BadQuestion, thing, with_answer, TEN, thing, "x")
            self.refuses(BadQuestion, thing, all_answers, many, thing)
            for place in range(5):
                question = good[:place] + (thing,) + good[place + 1:]
                right = type(thing) is int and {0: thing in (0, 1, 10), 1: 10 < thing <= TOP, 2: thing == 1,
                                                4: 0 <= thing <= TOP}.get(place, False)
                if right:
                    self.assertEqual(len(with_answer(SOME, question, 1)[1]), 4)
                else:
                    self.refuses(BadQuestion, question, with_answer, SOME, question, "x")
                    self.refuses(BadQuestion, question, all_answers, SOME, question)
        self.refuses(BadQuestion, (Same(), 11, 1, "has", 7), with_answer, SOME, (Same(), 11, 1, "has", 7), 1)
        # What another thing has, or another WORD, may be given.
        for question, wanted in (((10, 11, 0, "put", 7), (None,)), ((10, 11, 1, "join", 5), (None,)),
                                 ((10, 11, 1, "drop", 7), (None,)), ((10, 11, 1, "has", 7), (1,))):
            self.tells(wanted, all_answers, SOME, question)

    def test_six_calls_and_seven(self):
        six = (("queue",), TEN[1][:6])
        self.tells((0,), all_answers, six, (30, 31, 0, "take", None))
        self.tells((None,), all_answers, six, (30, 31, 0, "put", 6))
        for many in (7, 8, 9, 10):
            history = (("queue",), TEN[1][:many])
            self.refuses(TooMany, 6, all_answers, history, (30, 31, 0, "take", None))
            self.refuses(BadQuestion, (30, 31, 0, "put", 6), all_answers, history, (30, 31, 0, "put", 6))
            if many < 10:
                self.tells((("queue",), TEN[1][:many] + ((30, 31, 0, "put", 10, None),)), with_answer, history,
                           (30, 31, 0, "put", 10), None)


class TestNarrowed(Checks, unittest.TestCase):
    def other(self, chance, history):
        """The same calls in turn, with other moments."""
        many = len(history[1])
        # What overlaps may be more, or less.
        spans = [(at, at + 0.5 + chance.choice((0.1, 0.7, 3, 9)) * chance.random()) for at in range(many)]
        return history[0], tuple(span + call[2:] for span, call in zip(ranked(spans), history[1]))

    def test_some(self):
        calls = [("put", 5, None), ("put", 6, None), ("take", None, 5)]
        overlap, row = (("queue",), together(calls)), (("queue",), behind(calls))
        self.tells(True, is_narrowed, row, overlap)
        self.tells(False, is_narrowed, overlap, row)
        for history in (overlap, row):
            self.tells(True, is_narrowed, history, history)
            moved = (history[0], tuple((3 * call[0] + 7, 3 * call[1] + 7) + call[2:] for call in history[1]))
            self.tells(True, is_narrowed, history, moved)
            self.tells(True, is_narrowed, moved, history)
        for sort in webfacts.SORTS:
            self.tells(True, is_narrowed, ((sort,), ()), ((sort,), ()))
        self.tells(False, is_narrowed, (("set",), ()), (("cell",), ()))
        self.tells(False, is_narrowed, ((("room", 1),), ()), ((("room", 2),), ()))
        self.tells(False, is_narrowed, (("set", "set"), ()), (("set",), ()))
        # Other CALLS, or these in another turn, one more or one less.
        for other in (calls[:2], calls + [("take", None, 6)], [calls[1], calls[0], calls[2]], calls[:2] + [("take", None, 6)],
                      calls[:2] + [("take", None, None)], [("put", 7, None)] + calls[1:]):
            self.tells(False, is_narrowed, (("queue",), behind(other)), overlap)
            self.tells(False, is_narrowed, row, (("queue",), together(other)))
        self.tells(False, is_narrowed, (("stack",), behind(calls)), overlap)
        two = (("queue", "queue"), row[1])
        self.tells(False, is_narrowed, two, (two[0], tuple(call[:2] + (1,) + call[3:] for call in row[1])))

    def test_ten_calls(self):
        self.tells(True, is_narrowed, TEN, (TEN[0], together([call[3:] for call in TEN[1]])))
        self.tells(False, is_narrowed, (TEN[0], together([call[3:] for call in TEN[1]])), TEN)

    def test_against_the_words(self):
        chance = random.Random(560)
        told = {True: 0, False: 0}
        for history in webfacts.small(561, 14):
            other = self.other(chance, history)
            numbers = range(len(history[1]))
            wanted = all(oracle.ahead(history[1][one], history[1][two]) for one in numbers for two in numbers
                         if oracle.ahead(other[1][one], other[1][two]))
            self.tells(wanted, is_narrowed, history, other)
            told[wanted] += len(history[1]) > 2
            if not wanted:
                continue
            rows, others = oracle.explanations(history), oracle.explanations(other)
            orders = oracle.orders(history)
            self.assertEqual(rows, [row for row in others if row in orders])
            if rows:
                self.assertTrue(set(sure_pairs(other)) <= set(sure_pairs(history)))
        self.assertTrue(min(told.values()) > 50)

    def test_histories_are_refused(self):
        self.refuses_histories(is_narrowed, None)
        self.refuses_histories(is_narrowed, SOME)
        self.refuses(BadHistory, "sorts", is_narrowed, ((), ()), None)
        self.refuses_histories(lambda thing: is_narrowed(SOME, thing))


if __name__ == "__main__":
    unittest.main()
