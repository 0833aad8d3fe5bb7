"""Histories by words: [63], [64]."""

import random
import unittest

import oracle
import termfacts
from checks import Checks, alike
from samples import NO_HISTORIES, ODD, TOP, Integer, Row, Same, Text, behind
from shortbars.errors import BadTerm
from shortbars.terms import history_of, kids_of, need_term

QUEUE = (("queue",), ((0, 3, 0, "put", 5, None), (1, 2, 0, "put", 6, None), (4, 5, 0, "take", None, 6)))
SET = (("set", "cell"), ((10, 12, 1, "write", 5, None), (11, 13, 0, "join", 5, None)))
EMPTY = ("history", (("queue",), ()))
Q, S = ("history", QUEUE), ("history", SET)
FUNCTIONS = (need_term, history_of, kids_of)


def nested(deep, word="plain"):
    """A term that is so many deep."""
    term = Q
    for _ in range(deep - 1):
        term = (word, term)
    return term


def wide(words):
    """A term of so many words, odd ones, no more than six deep."""
    terms = [EMPTY] * ((words + 1) // 2)
    while len(terms) > 1:
        terms = [("behind",) + tuple(terms[at:at + 2]) if at + 1 < len(terms) else terms[at] for at in range(0, len(terms), 2)]
    return terms[0]


class TestEachWord(Checks, unittest.TestCase):
    def told(self, wanted, term):
        self.tells(wanted, history_of, term)
        self.assertIs(need_term(term), term)

    def wrong(self, path, term):
        for function in FUNCTIONS:
            self.refuses(BadTerm, path, function, term)

    def test_history(self):
        self.told(QUEUE, Q)
        self.told(SET, S)
        self.told((("queue",), ()), EMPTY)
        self.tells((), kids_of, Q)
        for history, _ in NO_HISTORIES:
            self.wrong((), ("history", history))
            self.wrong((1,), ("plain", ("history", history)))
            self.wrong((2, 1), ("beside", Q, ("shifted", ("history", history), 0)))

    def test_beside(self):
        both = (("queue", "set", "cell"), QUEUE[1] + ((10, 12, 2, "write", 5, None), (11, 13, 1, "join", 5, None)))
        self.told(both, ("beside", Q, S))
        other = (("set", "cell", "queue"), tuple(call[:2] + (2,) + call[3:] for call in QUEUE[1])
                 + ((10, 12, 1, "write", 5, None), (11, 13, 0, "join", 5, None)))
        self.told(other, ("beside", S, Q))
        self.tells((Q, S), kids_of, ("beside", Q, S))
        # By BEGINS, whose ever they are.
        one, two = ("history", (("set",), ((0, 9, 0, "join", 1, None), (4, 5, 0, "has", 1, 1)))), \
            ("history", (("set",), ((1, 3, 0, "join", 1, None), (6, 8, 0, "has", 1, 1))))
        self.told((("set", "set"), ((0, 9, 0, "join", 1, None), (1, 3, 1, "join", 1, None), (4, 5, 0, "has", 1, 1),
                                    (6, 8, 1, "has", 1, 1))), ("beside", one, two))
        # Moments that are not unlike; too many things; too many calls.
        self.wrong((), ("beside", Q, Q))
        self.wrong((), ("beside", S, ("history", (("set",), ((13, 14, 0, "has", 1, 0),)))))
        self.wrong((), ("beside", ("beside", S, ("thing", EMPTY, 0)), ("thing", S, 0)))
        four = ("beside", ("beside", S, EMPTY), EMPTY)
        self.told((("set", "cell", "queue", "queue"), SET[1]), four)
        self.wrong((), ("beside", four, EMPTY))
        five = ("history", (("tickets",), behind([("draw", None, at) for at in range(5)])))
        six = ("history", (("tickets",), behind([("draw", None, at) for at in range(6)])))
        self.assertEqual(len(history_of(("beside", five, ("shifted", five, 50)))[1]), 10)
        self.wrong((), ("beside", five, ("shifted", six, 50)))

    def test_behind(self):
        take = ("history", (("queue",), ((0, 2, 0, "take", None, 5), (1, 3, 0, "put", 7, None))))
        self.told((("queue",), QUEUE[1] + ((6, 8, 0, "take", None, 5), (7, 9, 0, "put", 7, None))), ("behind", Q, take))
        self.told((("queue",), ((0, 2, 0, "take", None, 5), (1, 3, 0, "put", 7, None), (4, 7, 0, "put", 5, None),
                                (5, 6, 0, "put", 6, None), (8, 9, 0, "take", None, 6))), ("behind", take, Q))
        self.tells((Q, take), kids_of, ("behind", Q, take))
        # By nought where there are no calls ahead.
        self.told(QUEUE, ("behind", EMPTY, Q))
        self.told(QUEUE, ("behind", Q, EMPTY))
        late = ("history", (("queue",), ((5, 8, 0, "take", None, 5),)))
        self.told(late[1], ("behind", EMPTY, late))
        self.told((("queue",), ((5, 8, 0, "take", None, 5), (14, 17, 0, "take", None, 5))), ("behind", late, late))
        # Other sorts, the same sorts in another turn, what may not be given twice, moments beyond the greatest.
        self.wrong((), ("behind", Q, S))
        self.wrong((), ("behind", ("history", (("cell", "set"), ())), S))
        self.wrong((), ("behind", ("history", ((("room", 1),), ())), ("history", ((("room", 2),), ()))))
        self.wrong((), ("behind", Q, ("history", (("queue",), ((0, 1, 0, "put", 6, None),)))))
        far = ("history", (("queue",), ((0, TOP, 0, "take", None, None),)))
        self.wrong((), ("behind", far, late))
        self.wrong((), ("behind", late, far))
        self.told(far[1], ("behind", far, EMPTY))
        most = ("history", (("queue",), ((0, TOP - 9, 0, "take", None, None),)))
        self.assertEqual(history_of(("behind", late, most))[1][1][:2], (9, TOP))

    def test_shifted(self):
        self.told((("queue",), ((7, 10, 0, "put", 5, None), (8, 9, 0, "put", 6, None), (11, 12, 0, "take", None, 6))),
                  ("shifted", Q, 7))
        self.told(QUEUE, ("shifted", Q, 0))
        self.tells((Q,), kids_of, ("shifted", Q, 7))
        self.assertEqual(history_of(("shifted", Q, TOP - 5))[1][-1][:2], (TOP - 1, TOP))
        self.wrong((), ("shifted", Q, TOP - 4))
        self.wrong((), ("shifted", Q, TOP))
        self.told(EMPTY[1], ("shifted", EMPTY, TOP))
        for thing in ODD:
            if not (type(thing) is int and 0 <= thing <= TOP):
                self.wrong((), ("shifted", EMPTY, thing))

    def test_plain(self):
        self.told((("set", "cell"), ((0, 2, 1, "write", 5, None), (1, 3, 0, "join", 5, None))), ("plain", S))
        self.told(QUEUE, ("plain", ("shifted", Q, 700)))
        self.told(EMPTY[1], ("plain", EMPTY))
        self.tells((S,), kids_of, ("plain", S))

    def test_thing(self):
        self.told((("set",), ((11, 13, 0, "join", 5, None),)), ("thing", S, 0))
        self.told((("cell",), ((10, 12, 0, "write", 5, None),)), ("thing", S, 1))
        self.tells((S,), kids_of, ("thing", S, 1))
        self.wrong((), ("thing", S, 2))
        self.wrong((), ("thing", S, 3))
        for thing in ODD:
            if not (type(thing) is int and 0 <= thing < 2):
                self.wrong((), ("thing", S, thing))

    def test_without(self):
        self.told((("queue",), ((0, 3, 0, "put", 5, None),)), ("without", Q, 0, (6,)))
        self.told(QUEUE, ("without", Q, 0, ()))
        self.told((("queue",), ()), ("without", Q, 0, (5, 6)))
        self.told((SET[0], SET[1][:1]), ("without", S, 0, (5,)))
        self.told((SET[0], SET[1][1:]), ("without", S, 1, (0, 5, TOP)))
        self.tells((Q,), kids_of, ("without", Q, 0, (6,)))
        self.told(QUEUE, ("without", Q, 0, tuple(range(10, 20))))
        self.wrong((), ("without", Q, 0, tuple(range(10, 21))))
        self.wrong((), ("without", Q, 1, ()))
        for sort in ("counter", "tickets"):
            for some in ((), (5,)):
                self.wrong((), ("without", ("history", ((sort,), ())), 0, some))
            self.told((("set", sort), ()), ("without", ("history", (("set", sort), ())), 0, ()))
            self.wrong((), ("without", ("history", (("set", sort), ())), 1, ()))
        for thing in ODD:
            if not alike(thing, 0):
                self.wrong((), ("without", Q, thing, ()))
            right = type(thing) is tuple and all(type(value) is int and 0 <= value <= TOP for value in thing) \
                and list(thing) == sorted(set(thing))
            if right:
                self.told(termfacts.without(QUEUE, 0, thing), ("without", Q, 0, thing))
            else:
                self.wrong((), ("without", Q, 0, thing))


class TestWalks(Checks, unittest.TestCase):
    def wrong(self, path, term):
        for function in FUNCTIONS:
            self.refuses(BadTerm, path, function, term)

    def test_things_of_every_kind(self):
        for thing in ODD:
            self.wrong((), thing)
            self.wrong((1,), ("plain", thing))
            self.wrong((2,), ("beside", Q, thing))
            self.wrong((1, 2), ("plain", ("behind", Q, thing)))
        for thing in (("history",), ("history", QUEUE, QUEUE), ["history", QUEUE], ("History", QUEUE), ("", QUEUE), (None, QUEUE),
                      (b"history", QUEUE), (Same(), QUEUE), (["history"], QUEUE), ("beside", Q), ("beside", Q, S, S), ("behind", Q),
                      ("behind",), ("shifted", Q), ("shifted", Q, 0, 0), ("plain",), ("plain", Q, 0), ("thing", Q), ("thing",),
                      ("thing", Q, 0, ()), ("without", Q, 0), ("without", Q), ("without", Q, 0, (), ()), "history", ("queue",), QUEUE,
                      ("shifted", 0, Q), ("thing", 0, Q), ("without", Q, (), 0), {"history": QUEUE}):
            self.wrong((), thing)

    def test_eight_deep_and_nine(self):
        self.tells(QUEUE, history_of, nested(8))
        self.wrong((), nested(9))
        self.wrong((), nested(20))
        # What stands within eight others is refused whatever it is.
        for thing in (None, 0, (), ("plain",), Q, ("history", None)):
            term = thing
            for _ in range(8):
                term = ("plain", term)
            self.wrong((), term)
            term = thing
            for _ in range(7):
                term = ("plain", term)
            if thing != Q:
                self.wrong((1,) * 7, term)
        # The first one that comes is told: left ahead of right, the whole ahead of what stands in it.
        self.wrong((1,), ("behind", None, nested(8)))
        self.wrong((), ("behind", nested(8), None))
        self.wrong((2,), ("behind", nested(7), None))

    def test_twenty_words_and_21(self):
        self.assertEqual((termfacts.words_in(wide(19)), termfacts.words_in(wide(21))), (19, 21))
        self.tells(EMPTY[1], history_of, wide(19))
        self.tells(EMPTY[1], history_of, ("plain", wide(19)))
        self.wrong((), wide(21))
        self.wrong((), ("plain", ("plain", wide(19))))
        self.wrong((), ("beside", Q, wide(19)))
        # The 21st, whatever it is; and what comes ahead of it.
        for thing in (None, 0, (), ("plain",), ("history", None)):
            self.wrong((), ("behind", wide(19), thing))
            self.wrong((1,), ("behind", thing, wide(19)))
            self.wrong((2,), ("behind", wide(17), thing))

    def test_what_has_no_form_ahead_of_what_is_no_term(self):
        none = ("thing", Q, 3)
        self.wrong((1,), ("plain", none))
        self.wrong((2,), ("beside", none, None))
        self.wrong((1,), ("beside", none, S))
        self.wrong((1,), ("beside", none, none))
        self.wrong((2,), ("beside", S, none))
        # What stands in it ahead of the whole.
        self.wrong((2, 1), ("behind", Q, ("shifted", none, TOP)))
        self.wrong((), ("behind", S, ("shifted", Q, 5)))
        self.wrong((2,), ("behind", S, ("shifted", Q, TOP)))
        self.wrong((1,), ("behind", ("shifted", Q, TOP), ("shifted", Q, TOP)))
        self.wrong((), ("thing", ("beside", none, S), 9))
        self.wrong((), ("thing", None, 9))
        self.wrong((), ("without", None, 0, (2, 1)))
        self.wrong((), ("without", None, 4, ()))
        self.wrong((), ("without", None, [0], ()))
        self.wrong((1,), ("without", None, 3, ()))
        self.wrong((1,), ("without", None, 0, (1, 2)))

    def test_by_chance_against_the_words(self):
        chance = random.Random(880)
        told = {}
        for _ in range(2500):
            term = termfacts.any_term(chance, chance.randrange(5))
            if termfacts.words_in(term) > 20 or termfacts.depth(term) > 8:
                self.wrong((), term)
                continue
            wanted = termfacts.history_of(term)
            key = (term[0], wanted is not None)
            told[key] = told.get(key, 0) + 1
            if wanted is None:
                self.wrong(termfacts.first_wrong(term), term)
            else:
                self.tells(wanted, history_of, term)
                self.tells(termfacts.kids(term), kids_of, term)
        for word in termfacts.KIDS:
            self.assertGreater(told[word, True], 30)
            self.assertTrue(word in ("history", "plain") or told[word, False] > 10, (word, told))

    def test_what_is_told_is_plain(self):
        def own(thing):
            if type(thing) is tuple:
                return Row(own(part) for part in thing)
            return Text(thing) if type(thing) is str else Integer(thing) if type(thing) is int else thing
        term = ("without", ("behind", ("shifted", Q, 5), ("thing", ("beside", EMPTY, S), 0)), 0, (6, 7))
        self.assertTrue(alike(history_of(own(term)), history_of(term)))
        self.assertTrue(alike(kids_of(own(term)), kids_of(term)))
        self.assertTrue(alike(kids_of(own(term[1])), kids_of(term[1])))
        mine = own(term)
        self.assertIs(need_term(mine), mine)


class TestTheFacts(Checks, unittest.TestCase):
    def test_the_words_and_explanations(self):
        chance = random.Random(900)
        told = set()
        for _ in range(900):
            kid = ("history", termfacts.any_history(chance))
            other = ("history", termfacts.any_history(chance, chance.choice((None, history_of(kid)[0]))))
            rows = oracle.explanations(history_of(kid))
            for term in (("beside", kid, ("shifted", other, 500)), ("behind", kid, other), ("shifted", kid, 9), ("plain", kid),
                         ("thing", kid, 0), ("without", kid, 0, (0, 2))):
                history = termfacts.history_of(term)
                if history is None or len(history[1]) > 7:
                    continue
                found = oracle.explanations(history_of(term))
                told.add((term[0], rows != [], found != []))
                if term[0] == "beside":
                    self.assertEqual(found != [], rows != [] and oracle.explanations(history_of(other)) != [])
                elif term[0] in ("shifted", "plain"):
                    self.assertEqual(found, rows)
        for word in ("shifted", "plain"):
            self.assertEqual({key for key in told if key[0] == word}, {(word, True, True), (word, False, False)})
        for word in ("thing", "without"):
            self.assertEqual({key for key in told if key[0] == word}, {(word, True, True), (word, False, False), (word, False, True)})
        for word in ("behind", "beside"):
            self.assertEqual({key for key in told if key[0] == word}, {(word, True, True), (word, False, False), (word, True, False)})


if __name__ == "__main__":
    unittest.main()
