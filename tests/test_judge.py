"""Sheets: what is said of a term's history: [67]."""

import random
import unittest

import oracle
import termfacts
import textfacts
from checks import outcome
from samples import ODD, Text, behind, together
from shortbars.errors import BadTerm, TooMany
from shortbars.judge import judged
from test_texts import BAD, TextChecks

# The take is behind both puts, which overlap, and told the second one.
SOME = (("queue",), ((0, 3, 0, "put", 5, None), (1, 2, 0, "put", 6, None), (4, 5, 0, "take", None, 6)))
BARRED = (("cell",), behind([("write", 5, None), ("read", None, None)]))


def sheet(history, *sayings):
    return "\n".join((textfacts.term_text(("history", history)),) + sayings)


def is_so(history, saying):
    """Whether a saying is so, by going through all explanations."""
    word, *numbers = saying.split(" ")
    numbers = tuple(int(number) for number in numbers)
    calls = history[1]
    if word == "calls":
        return len(calls) == numbers[0]
    if word == "quiet":
        place = numbers[0]
        return 0 < place < len(calls) and all(call[1] < calls[place][0] for call in calls[:place])
    if word == "ahead":
        return max(numbers) < len(calls) and oracle.ahead(calls[numbers[0]], calls[numbers[1]])
    rows = oracle.explanations(history)
    if word == "explained":
        return rows != []
    if word == "first":
        return rows != [] and rows[0] == numbers
    if word == "count":
        return len(rows) == numbers[0]
    if numbers[0] == numbers[1] or max(numbers) >= len(calls):
        return False
    return rows != [] and all(row.index(numbers[0]) < row.index(numbers[1]) for row in rows)


def any_saying(chance, history):
    """A saying, right or wrong."""
    many = len(history[1])
    word = chance.choice(("explained", "calls", "ahead", "surely", "quiet", "first", "count"))
    rows = oracle.explanations(history)
    if word == "first":
        row = rows[0] if rows and chance.randrange(3) else tuple(chance.sample(range(many), many))
        return " ".join([word] + [str(number) for number in row])
    if word == "count":
        return f"count {len(rows) if chance.randrange(2) else chance.randrange(9)}"
    if word in ("ahead", "surely"):
        return f"{word} {chance.randrange(many + 1)} {chance.randrange(many + 1)}"
    if word == "quiet":
        return f"quiet {chance.randrange(many + 2)}"
    if word == "calls":
        return f"calls {many if chance.randrange(2) else chance.randrange(12)}"
    return word


class TestSayings(TextChecks, unittest.TestCase):
    def said(self, history, **wanted):
        """Sayings, with _ for spaces, each with what is told of it."""
        sayings = [words.replace("_", " ") for words in wanted]
        self.tells(tuple(wanted.values()), judged, sheet(history, *sayings))
        for saying, so in zip(sayings, wanted.values()):
            self.assertEqual(is_so(history, saying), so)

    def test_some(self):
        self.said(SOME, explained=True, calls_3=True, calls_2=False, ahead_0_2=True, ahead_2_0=False, ahead_0_1=False,
                  surely_1_0=True, surely_0_1=False, surely_1_2=True, quiet_2=True, quiet_1=False, quiet_0=False, quiet_3=False,
                  first_1_0_2=True, first_0_1_2=False, first_1_0=False, first=False, count_1=True, count_0=False)
        self.said(BARRED, explained=False, calls_2=True, ahead_0_1=True, surely_0_1=False, surely_1_0=False, quiet_1=True,
                  first=False, first_0_1=False, count_0=True, count_1=False)

    def test_no_calls(self):
        self.said((("set", "cell"), ()), explained=True, calls_0=True, calls_1=False, ahead_0_1=False, surely_0_1=False, quiet_0=False,
                  quiet_1=False, first=True, first_0=False, count_1=True, count_0=False)

    def test_no_sayings(self):
        self.tells((), judged, sheet(SOME))
        self.tells((), judged, Text(sheet(BARRED)))
        self.tells((True, True), judged, Text(sheet(SOME, "explained", "explained")))

    def test_numbers_that_are_not_there(self):
        large = "9" * 31
        self.said(SOME, **{f"ahead_0_{large}": False, f"surely_{large}_0": False, f"calls_{large}": False, f"quiet_{large}": False,
                           f"count_{large}": False, "ahead_1_1": False, "surely_1_1": False, "ahead_3_0": False, "ahead_0_3": False,
                           "surely_3_3": False, f"first_1_0_{large}": False, "first_1_0_2_3": False, "first_0_0_0": False})

    def test_seven_calls_and_eight(self):
        puts = [("put", at, None) for at in range(8)]
        seven, eight = (("heads",), together(puts[:7])), (("heads",), together(puts))
        self.said(seven, explained=True, calls_7=True, surely_0_1=False, count_5040=True, first_0_1_2_3_4_5_6=True, quiet_1=False)
        self.said((("heads",), behind(puts)), calls_8=True, ahead_0_7=True, ahead_7_0=False, quiet_7=True, quiet_8=False)
        self.tells((), judged, sheet(eight))
        self.tells((True, False), judged, sheet(eight, "calls 8", "ahead 0 1"))
        for saying in ("explained", "surely 0 1", "surely 9 9", "first", "first 5 5 5", "count 0", "count 99"):
            self.refuses(TooMany, 7, judged, sheet(eight, saying))
            self.refuses(TooMany, 7, judged, sheet(eight, "calls 8", saying, "quiet 1"))
        self.refuses(TooMany, 7, judged, sheet((("heads",), behind(puts)), "surely 0 0"))

    def test_against_the_words(self):
        chance = random.Random(960)
        told = set()
        for _ in range(400):
            history = termfacts.any_history(chance)
            sayings = [any_saying(chance, history) for _ in range(chance.randrange(8))]
            wanted = tuple(is_so(history, saying) for saying in sayings)
            self.tells(wanted, judged, sheet(history, *sayings))
            told |= {(saying.split(" ")[0], so) for saying, so in zip(sayings, wanted)}
        self.assertEqual(len(told), 14)

    def test_of_any_term(self):
        chance = random.Random(970)
        seen = set()
        for _ in range(600):
            term = termfacts.any_term(chance, chance.randrange(4))
            if termfacts.words_in(term) > 20:
                continue
            text = textfacts.term_text(term)
            history = termfacts.history_of(term)
            if history is None:
                self.refuses(BadTerm, termfacts.first_wrong(term), judged, text + "\nexplained")
                self.refuses(BadTerm, termfacts.first_wrong(term), judged, text)
                self.refuses_text((1, 0), judged, text + "\nExplained")
                continue
            if len(history[1]) > 7:
                self.refuses(TooMany, 7, judged, text + "\ncount 1")
                continue
            sayings = [any_saying(chance, history) for _ in range(3)]
            self.tells(tuple(is_so(history, saying) for saying in sayings), judged, "\n".join([text] + sayings))
            seen.add(term[0])
        self.assertEqual(seen, set(termfacts.KIDS))


class TestRefusals(TextChecks, unittest.TestCase):
    def test_no_strings(self):
        for thing in ODD + ([sheet(SOME)], sheet(SOME).encode()):
            if not isinstance(thing, str):
                self.refuses_text(BAD, judged, thing)

    def test_what_has_no_form(self):
        for saying, word in (
                ("", 0), (" explained", 0), ("explained ", 1), ("explained 1", 1), ("Explained", 0), ("calls", 1), ("calls ", 1),
                ("calls -", 1), ("calls x", 1), ("calls 1 2", 2), ("calls 01", 1), ("calls -1", 1), ("calls " + "1" * 32, 1),
                ("ahead", 1), ("ahead 0", 2), ("ahead 0 ", 2), ("ahead 0 -", 2), ("ahead x 1", 1), ("ahead 0 1 2", 3), ("surely 0", 2),
                ("surely - 0", 1), ("surely 0 1 ", 3), ("quiet", 1), ("quiet 1 2", 2), ("quiet -", 1), ("first ", 1), ("first -", 1),
                ("first 0 -", 2), ("first 0  1", 2), ("first 0 1 01", 3), ("count", 1), ("count -", 1), ("count 1 1", 2), ("count", 1),
                ("first\t0", 0), ("put", 0), ("plain", 0), ("-", 0), ("0", 0)):
            self.refuses_text((1, word), judged, sheet(SOME, saying))
            self.refuses_text((3, word), judged, sheet(SOME, "explained", "first 9", saying, "x"))
            # Ahead of what is no term, and of what is too much.
            self.refuses_text((2, word), judged, "thing 3 " + sheet(SOME, "explained", saying))
            self.refuses_text((2, word), judged, sheet((("tickets",), behind([("draw", None, at) for at in range(8)])), "count 1", saying))
        for text, place in (("", (0, 0)), ("\nexplained", (0, 0)), ("x\nx", (0, 0)), ("plain\nexplained", (0, 1)), (sheet(SOME) + "\n", (1, 0)),
                            (sheet(SOME) + " \nexplained", (0, 22)), (sheet(SOME, "calls 3") + "\n", (2, 0)), ("explained", (0, 0))):
            self.refuses_text(place, judged, text)

    def test_errors_in_their_turn(self):
        many = textfacts.term_text(("history", (("tickets",), behind([("draw", None, at) for at in range(8)]))))
        self.refuses(BadTerm, (), judged, "thing 1 " + many + "\nexplained")
        self.refuses(BadTerm, (1,), judged, "plain thing 1 " + many)
        self.refuses(TooMany, 7, judged, "thing 0 " + many + "\nexplained")
        self.refuses(BadTerm, (), judged, "plain " * 8 + many + "\nexplained")

    def test_by_chance_against_the_words(self):
        chance = random.Random(980)
        told = {}
        for _ in range(1500):
            history = termfacts.any_history(chance)
            text = sheet(history, *[any_saying(chance, history) for _ in range(1 + chance.randrange(6))])
            text = textfacts.spoilt(chance, text)
            wrong = textfacts.wrong_in_sheet(text)
            if wrong is not None:
                self.refuses_text(wrong, judged, text)
                told["text"] = told.get("text", 0) + 1
                continue
            result = outcome(judged, text)
            if result[0] == "returned":
                self.assertEqual(len(result[1]), text.count("\n"))
            else:
                self.assertIs(result[1][0], BadTerm)
            told[result[0]] = told.get(result[0], 0) + 1
        self.assertTrue(len(told) == 3 and min(told.values()) > 5, told)


if __name__ == "__main__":
    unittest.main()
