"""Texts of histories and terms: [65], [66]."""

import random
import unittest

import termfacts
import textfacts
from checks import Checks, alike, outcome
from samples import ALL_SORTS, NO_HISTORIES, ODD, TOP, Integer, Row, Text, behind, mixed
from shortbars.calls import need_history
from shortbars.errors import BadHistory, BadTerm, BadText
from shortbars.terms import history_of, need_term
from shortbars.texts import history_text, read_history, read_term, term_text

SOME = (("queue", ("room", 3)), ((0, 3, 0, "put", 5, None), (1, 2, 1, "enter", 1000000, None), (4, 5, 0, "take", None, None)))
TEXT = "queue room 3\n0 3 0 put 5 -\n1 2 1 enter 1000000 -\n4 5 0 take - -"
TEN = "queue" + "".join(f"\n{2 * at} {2 * at + 1} 0 put {at} -" for at in range(10))
TERM = ("without", ("behind", ("shifted", ("history", SOME), 7), ("plain", ("history", (SOME[0], ())))), 0, (3, 5))
TERM_TEXT = ("without 0 2 3 5 behind shifted 7 history 2 queue room 3 3 0 3 0 put 5 - 1 2 1 enter 1000000 - 4 5 0 take - - "
             "plain history 2 queue room 3 0")
BAD = (None, None)


class TextChecks(Checks):
    def refuses_text(self, place, function, text):
        """BadText with just this line and word."""
        result = outcome(function, text)
        self.assertTrue(result[0] == "raised" and result[1][0] is BadText, (text, result))
        found = result[1][1]
        self.assertEqual(list(found), ["line", "word"])
        self.assertTrue(alike((found["line"], found["word"]), place), (text, found, place))


class TestHistories(TextChecks, unittest.TestCase):
    def test_some(self):
        self.tells(TEXT, history_text, SOME)
        self.tells(SOME, read_history, TEXT)
        self.tells("cell\n0 1 0 read - 0", history_text, (("cell",), ((0, 1, 0, "read", None, 0),)))
        for sort in ALL_SORTS:
            text = f"room {sort[1]}" if isinstance(sort, tuple) else sort
            self.tells(text, history_text, ((sort,), ()))
            self.tells(((sort,), ()), read_history, text)
        self.tells("set cell room 9 room 1", history_text, (("set", "cell", ("room", 9), ("room", 1)), ()))
        self.tells(((("room", 1),) * 4, ()), read_history, "room 1 room 1 room 1 room 1")
        self.tells(tuple(call[4] for call in read_history(TEN)[1]), lambda: tuple(range(10)))
        own = Row((Row((Text("queue"), Row((Text("room"), Integer(3))))), Row(Row(call) for call in SOME[1])))
        self.tells(TEXT, history_text, own)
        self.tells(SOME, read_history, Text(TEXT))

    def test_there_and_back(self):
        chance = random.Random(920)
        for sort in ALL_SORTS:
            for sorts in ((sort,), (sort, "queue", "set")):
                for history in mixed(chance, sorts, 10, 9, 12):
                    text = textfacts.history_text(history)
                    self.tells(text, history_text, history)
                    self.tells(history, read_history, text)

    def test_what_has_no_form(self):
        for text, place in (
                ("", (0, 0)), ("\n", (0, 0)), (" queue", (0, 0)), ("queue ", (0, 1)), ("queue  set", (0, 1)), ("room", (0, 1)),
                ("room 0", (0, 1)), ("room 10", (0, 1)), ("room 01", (0, 1)), ("room -1", (0, 1)), ("room x", (0, 1)),
                ("room 3 x", (0, 2)), ("queue room", (0, 2)), ("queue 3", (0, 1)), ("room 1 2", (0, 2)), ("Queue", (0, 0)),
                ("set set set set set", (0, 4)), ("set set set set ", (0, 4)), ("room 1 room 2 room 3 room 4 x", (0, 8)),
                ("queue\n", (1, 0)), ("queue\n\n", (1, 0)), (TEXT + "\n", (4, 0)), (TEN + "\n", (11, 0)), (TEN + "\nx", (11, 0)),
                (TEN + "\n20 21 0 put 10 -", (11, 0)), ("x\nx", (0, 0)), ("queue\n0 1 0 put 5", (1, 5)), ("queue\n0 1 0 put", (1, 4)),
                ("queue\n0 1 0", (1, 3)), ("queue\n0 1", (1, 2)), ("queue\n0", (1, 1)), ("queue\n0 1 0 put 5 - ", (1, 6)),
                ("queue\n0 1 0 put 5 - -", (1, 6)), ("queue\n0 1 0 put  5 -", (1, 4)), ("queue\n 0 1 0 put 5 -", (1, 0)),
                ("queue\n- 1 0 put 5 -", (1, 0)), ("queue\n0 - 0 put 5 -", (1, 1)), ("queue\n0 1 - put 5 -", (1, 2)),
                ("queue\n0 1 0 - 5 -", (1, 3)), ("queue\n0 1 0 Put 5 -", (1, 3)), ("queue\n0 1 0 puts 5 -", (1, 3)),
                ("queue\n00 1 0 put 5 -", (1, 0)), ("queue\n0 01 0 put 5 -", (1, 1)), ("queue\n0 1 0 put 05 -", (1, 4)),
                ("queue\n0 1 0 put -5 -", (1, 4)), ("queue\n0 1 0 put 5 --", (1, 5)), ("queue\n0 1 0 put 5 -0", (1, 5)),
                ("queue\n0 1 0 put +5 -", (1, 4)), ("queue\n0 1 0 put 5_0 -", (1, 4)), ("queue\n0 1 0 put 5.0 -", (1, 4)),
                ("queue\n0 1 0 put " + "1" * 32 + " -", (1, 4)), ("queue\n0 1 0 put 5\t -", (1, 4)),
                ("queue\n0 1 0 put 5 -\n2 3 0 take - x", (2, 5)), ("queue\nx\nx", (1, 0)), ("queue\tset", (0, 0)),
                ("queue\r\n0 1 0 put 5 -", (0, 0)), ("queue\n0 1 0 put \u0665 -", (1, 4)), ("queue\n\u00b2 1 0 put 5 -", (1, 0))):
            self.refuses_text(place, read_history, text)
        for thing in ODD + ([TEXT], (TEXT,), TEXT.encode(), None):
            if not isinstance(thing, str):
                self.refuses_text(BAD, read_history, thing)

    def test_what_has_the_form_and_is_no_history(self):
        for text, part in (
                ("queue\n0 1 0 put " + "1" * 31 + " -", "calls"), ("queue\n0 " + "9" * 31 + " 0 put 5 -", "calls"),
                ("queue\n0 1 " + "1" * 31 + " put 5 -", "calls"), ("queue\n0 1 1 put 5 -", "calls"), ("queue\n0 1 0 join 5 -", "calls"),
                ("queue\n1 0 0 put 5 -", "calls"), ("queue\n0 1 0 put - -", "calls"), ("queue\n0 1 0 put 5 5", "calls"),
                ("queue\n0 1 0 take 5 -", "calls"), ("queue\n0 1000001 0 put 5 -", "calls"), ("queue\n0 1 0 put 1000001 -", "calls"),
                ("set\n0 1 0 has 5 2", "calls"), ("queue\n0 2 0 put 5 -\n1 2 0 put 6 -", "moments"),
                ("queue\n2 3 0 put 5 -\n0 1 0 put 6 -", "moments"), ("queue\n0 1 0 put 5 -\n2 3 0 put 5 -", "twice")):
            self.refuses(BadHistory, part, read_history, text)
            # What has no form further on is refused ahead of that.
            lines = text.count("\n") + 1
            self.refuses_text((lines, 0), read_history, text + "\nx")

    def test_by_chance_against_the_words(self):
        chance = random.Random(930)
        told = {}
        for at in range(2500):
            history = termfacts.any_history(chance)
            text = textfacts.history_text(history)
            for _ in range(chance.choice((1, 1, 2))):
                text = textfacts.spoilt(chance, text)
            wrong = textfacts.wrong_in_history(text)
            if wrong is not None:
                self.refuses_text(wrong, read_history, text)
                told["text"] = told.get("text", 0) + 1
                continue
            result = outcome(read_history, text)
            if result[0] == "returned":
                self.assertEqual(textfacts.history_text(result[1]), text)
                need_history(result[1])
            else:
                self.assertIs(result[1][0], BadHistory)
            told[result[0]] = told.get(result[0], 0) + 1
        self.assertTrue(len(told) == 3 and min(told.values()) > 20, told)

    def test_histories_are_refused(self):
        self.refuses_histories(history_text)


class TestTerms(TextChecks, unittest.TestCase):
    def test_some(self):
        self.tells(TERM_TEXT, term_text, TERM)
        self.tells(TERM, read_term, TERM_TEXT)
        one = ("history", (("cell",), ()))
        for text, term in (
                ("history 1 cell 0", one), ("beside history 1 cell 0 history 1 cell 0", ("beside", one, one)),
                ("shifted 0 history 1 cell 0", ("shifted", one, 0)), ("thing 0 plain history 1 cell 0", ("thing", ("plain", one), 0)),
                ("without 0 0 history 1 cell 0", ("without", one, 0, ())),
                ("without 0 10 0 1 2 3 4 5 6 7 8 1000000 history 1 cell 0", ("without", one, 0, tuple(range(9)) + (TOP,)))):
            self.tells(text, term_text, term)
            self.tells(term, read_term, text)
        self.tells(TERM_TEXT, term_text, Row((Text("without"), Row(TERM[1]), Integer(0), Row((3, Integer(5))))))
        self.tells(TERM, read_term, Text(TERM_TEXT))

    def test_there_and_back(self):
        chance = random.Random(940)
        done = set()
        for _ in range(900):
            term = termfacts.any_term(chance, chance.randrange(5))
            text = textfacts.term_text(term)
            if termfacts.words_in(term) > 20:
                continue
            if termfacts.depth(term) > 8 or termfacts.history_of(term) is None:
                path = () if termfacts.depth(term) > 8 else termfacts.first_wrong(term)
                self.refuses(BadTerm, path, term_text, term)
                self.refuses(BadTerm, path, read_term, text)
                continue
            self.tells(text, term_text, term)
            self.tells(term, read_term, text)
            done.add(term[0])
        self.assertEqual(done, set(termfacts.KIDS))

    def test_what_has_no_form(self):
        for text, place in (
                ("", (0, 0)), ("x", (0, 0)), (" history 1 cell 0", (0, 0)), ("history", (0, 1)), ("history 0", (0, 1)),
                ("history 5 cell cell cell cell cell 0", (0, 1)), ("history 01 cell 0", (0, 1)), ("history - cell 0", (0, 1)),
                ("history 1", (0, 2)), ("history 1 x", (0, 2)), ("history 1 room", (0, 3)), ("history 1 room 0", (0, 3)),
                ("history 1 room 10 0", (0, 3)), ("history 1 cell", (0, 3)), ("history 1 cell x", (0, 3)), ("history 1 cell 11", (0, 3)),
                ("history 1 cell 00", (0, 3)), ("history 1 cell 0 ", (0, 4)), ("history 1 cell 0 0", (0, 4)),
                ("history 1 cell 1", (0, 4)), ("history 1 cell 1 0 1 0 write 5", (0, 9)), ("history 1 cell 1 0 1 0 write 5 - -", (0, 10)),
                ("history 1 cell 2 0 1 0 write 5 -", (0, 10)), ("history 1 cell 1 0 1 0 cell 5 -", (0, 7)),
                ("history 1 cell 1 0 1 - write 5 -", (0, 6)), ("history 2 cell 0", (0, 3)), ("history 1 cell cell 0", (0, 3)),
                ("beside history 1 cell 0", (0, 5)), ("beside", (0, 1)), ("behind", (0, 1)), ("plain", (0, 1)), ("shifted", (0, 1)),
                ("shifted -", (0, 1)), ("shifted history 1 cell 0 3", (0, 1)), ("shifted 3", (0, 2)), ("shifted 3 4", (0, 2)),
                ("shifted 03 history 1 cell 0", (0, 1)), ("thing", (0, 1)), ("thing x", (0, 1)), ("thing 0", (0, 2)), ("without", (0, 1)),
                ("without 0", (0, 2)), ("without 0 11", (0, 2)), ("without 0 -", (0, 2)), ("without 0 2 1", (0, 4)),
                ("without 0 2 1 - ", (0, 4)), ("without 0 2 1 2", (0, 5)), ("without 0 0 1 history 1 cell 0", (0, 3)),
                ("plain plain", (0, 2)), ("plain history 1 cell 0 plain", (0, 5)), ("Plain history 1 cell 0", (0, 0)),
                ("history 1 cell 0\n", (1, 0)), ("history 1 cell 0\nx", (1, 0)), ("history 1 cell 0\n\n", (1, 0)), ("x\nx", (0, 0)),
                ("\nhistory 1 cell 0", (0, 0)), ("shifted " + "1" * 32 + " history 1 cell 0", (0, 1)), ("plain " * 20 + "x", (0, 20)),
                ("plain " * 20 + "history 1 cell 0", (0, 20)), ("plain " * 19 + "plain", (0, 20)), ("plain " * 20, (0, 20)),
                ("beside " * 10 + "history 1 cell 0 " * 11, (0, 50))):
            self.refuses_text(place, read_term, text)
        for thing in ODD:
            if not isinstance(thing, str):
                self.refuses_text(BAD, read_term, thing)

    def test_what_has_the_form_and_is_no_term(self):
        for text, path in (
                ("plain " * 8 + "history 1 cell 0", ()), ("plain " * 19 + "history 1 cell 0", ()),
                ("history 1 cell 1 0 1 0 put 5 -", ()), ("plain history 1 cell 1 1 0 0 write 5 -", (1,)),
                ("shifted 1000001 history 1 cell 0", ()), ("shifted " + "1" * 31 + " history 1 cell 0", ()),
                ("thing 1 history 1 cell 0", ()), ("thing 4 history 1 cell 0", ()), ("thing " + "1" * 31 + " history 1 cell 0", ()),
                ("without 0 0 history 1 counter 0", ()), ("without 0 2 2 1 history 1 cell 0", ()), ("without 0 2 1 1 history 1 cell 0", ()),
                ("without 0 1 1000001 history 1 cell 0", ()), ("behind history 1 cell 0 thing 1 history 1 cell 0", (2,)),
                ("behind history 1 cell 0 history 1 set 0", ()), ("beside history 1 cell 0 history 4 cell cell cell cell 0", ())):
            self.refuses(BadTerm, path, read_term, text)
            self.refuses_text((1, 0), read_term, text + "\n")

    def test_twenty_words(self):
        text = "plain " + "behind " * 4 + "behind " * 5 + "history 1 cell 0 " * 10
        words = text.strip().split(" ")
        self.assertEqual(len([word for word in words if word in textfacts.TERMS]), 20)
        self.refuses(BadTerm, (), read_term, text.strip())
        # Five deep, by pairs.
        term = ("history", (("cell",), ()))
        four = ("behind", ("behind", term, term), ("behind", term, term))
        twenty = ("plain", ("behind", ("behind", four, four), ("behind", term, term)))
        self.assertEqual(termfacts.words_in(twenty), 20)
        self.tells(twenty, read_term, textfacts.term_text(twenty))
        self.tells(textfacts.term_text(twenty), term_text, twenty)

    def test_by_chance_against_the_words(self):
        chance = random.Random(950)
        told = {}
        for at in range(2500):
            term = termfacts.any_term(chance, chance.randrange(4))
            text = textfacts.term_text(term)
            for _ in range(chance.choice((1, 1, 2))):
                text = textfacts.spoilt(chance, text)
            wrong = textfacts.wrong_in_term(text)
            if wrong is not None:
                self.refuses_text(wrong, read_term, text)
                told["text"] = told.get("text", 0) + 1
                continue
            result = outcome(read_term, text)
            if result[0] == "returned":
                self.assertEqual(textfacts.term_text(result[1]), text)
                need_term(result[1])
                history_of(result[1])
            else:
                self.assertIs(result[1][0], BadTerm)
            told[result[0]] = told.get(result[0], 0) + 1
        self.assertTrue(len(told) == 3 and min(told.values()) > 20, told)

    def test_terms_are_refused(self):
        for thing in ODD:
            self.refuses(BadTerm, (), term_text, thing)
        for history, _ in NO_HISTORIES:
            self.refuses(BadTerm, (1,), term_text, ("plain", ("history", history)))
        self.refuses(BadTerm, (2,), term_text, ("behind", ("history", (("cell",), behind([("read", None, 0)]))), None))


if __name__ == "__main__":
    unittest.main()
