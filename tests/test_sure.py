"""What stands ahead in every explanation: [46]."""

import random
import unittest

import oracle
import webfacts
from checks import Checks, alike
from paperchecks import is_explanation
from samples import ODD, Integer, Row, Same, Text, behind, together
from shortbars.errors import BadHistory, BadNumber, BadPaper, NotExplained, TooMany
from shortbars.standings import standings
from shortbars.sure import check_sure, is_surely_ahead, sure_pairs, sure_paper

# The take is told 6, so that 6 stands ahead of 5 and of the take, which is behind both.
SOME = (("queue",), ((0, 3, 0, "put", 5, None), (1, 2, 0, "put", 6, None), (4, 5, 0, "take", None, 6)))
FREE = (("cell",), together([("write", 5, None), ("write", 6, None), ("read", None, 6)]))
BARRED = (("cell",), behind([("write", 5, None), ("read", None, None)]))
EIGHT = (("queue",), together([("put", at, None) for at in range(8)]))


def small(seed=420):
    return webfacts.small(seed, 12)


def pairs_by_rows(history, rows):
    numbers = range(len(history[1]))
    return tuple((one, two) for one in numbers for two in numbers
                 if one != two and all(row.index(one) < row.index(two) for row in rows))


class TestSure(Checks, unittest.TestCase):
    def test_some(self):
        self.tells(((0, 2), (1, 0), (1, 2)), sure_pairs, SOME)
        self.tells(True, is_surely_ahead, SOME, 1, 0)
        self.tells(False, is_surely_ahead, SOME, 0, 1)
        self.tells(("sure",), sure_paper, SOME, 1, 0)
        self.tells(("not", (1, 0, 2)), sure_paper, SOME, 0, 1)
        self.tells(((1, 2),), sure_pairs, FREE)
        self.tells(True, is_surely_ahead, FREE, Integer(1), Integer(2))
        for one, two in ((0, 1), (1, 0), (0, 2), (2, 0), (2, 1)):
            self.tells(False, is_surely_ahead, FREE, one, two)

    def test_few_calls(self):
        for sort in webfacts.SORTS:
            self.tells((), sure_pairs, ((sort,), ()))
        self.tells((), sure_pairs, (("set",), behind([("join", 1, None)])))
        self.tells(((0, 1),), sure_pairs, (("set",), behind([("join", 1, None), ("has", 2, 0)])))

    def test_by_going_through_all_explanations(self):
        seen = set()
        for history in small():
            rows = oracle.explanations(history)
            if not rows:
                self.refuses(NotExplained, history, sure_pairs, history)
                continue
            wanted = pairs_by_rows(history, rows)
            self.tells(wanted, sure_pairs, history)
            numbers = range(len(history[1]))
            for one, two in [(one, two) for one in numbers for two in numbers if one != two]:
                sure = (one, two) in wanted
                self.tells(sure, is_surely_ahead, history, one, two)
                paper = sure_paper(history, one, two)
                self.assertEqual(len(paper), 1 if sure else 2)
                self.tells("sure" if sure else "not", check_sure, history, one, two, paper)
                if sure:
                    self.assertTrue(alike(paper, ("sure",)))
                else:
                    self.assertEqual(paper[0], "not")
                    self.assertIn(paper[1], rows)
                    self.assertLess(paper[1].index(two), paper[1].index(one))
                seen.add((history[0], sure))
        self.assertEqual(len(seen), 2 * (len(webfacts.SORTS) + len(webfacts.MIXES)))

    def test_the_facts(self):
        more = 0
        wild = 0
        for history in small(440):
            rows = oracle.explanations(history)
            if not rows:
                continue
            pairs = sure_pairs(history)
            calls = history[1]
            numbers = range(len(calls))
            ahead = [(one, two) for one in numbers for two in numbers if oracle.ahead(calls[one], calls[two])]
            self.assertTrue(set(ahead) <= set(pairs))
            more += len(pairs) > len(ahead)
            for one, two in pairs:
                self.assertTrue(all((one, far) in pairs for near, far in pairs if near == two))
                self.assertNotIn((two, one), pairs)
            live = standings(history)
            for one, two in [(one, two) for one in numbers for two in numbers if one != two]:
                self.assertEqual((one, two) in pairs, not any(two in lot and one not in lot for lot, _ in live))
            kept = [row for row in oracle.orders(history) if all(row.index(one) < row.index(two) for one, two in pairs)]
            self.assertTrue(set(rows) <= set(kept))
            wild += len(kept) > len(rows)
        self.assertGreater(more, 50)
        self.assertGreater(wild, 20)


class TestPapers(Checks, unittest.TestCase):
    def holds(self, history, one, two, paper):
        """By the words, whatever stands in a pair with "not"."""
        if paper[0] == "sure":
            return all(row.index(one) < row.index(two) for row in oracle.explanations(history))
        return is_explanation(history, paper[1]) and paper[1].index(two) < paper[1].index(one)

    def test_all_papers_near(self):
        told = {}
        for history in list(small(460))[::4]:
            if not oracle.explanations(history):
                continue
            numbers = range(len(history[1]))
            for one, two in [(one, two) for one in numbers for two in numbers if one != two][:12]:
                for paper in [("sure",)] + [("not", row) for row in oracle.orders(history)[:60]]:
                    wanted = self.holds(history, one, two, paper)
                    told.setdefault(paper[0], set()).add(wanted)
                    if wanted:
                        self.tells(paper[0], check_sure, history, one, two, paper)
                    else:
                        self.refuses(BadPaper, paper[0], check_sure, history, one, two, paper)
        self.assertEqual(told, {"sure": {True, False}, "not": {True, False}})

    def test_forms(self):
        for thing in ODD:
            self.refuses(BadPaper, "form", check_sure, SOME, 1, 0, thing)
        for paper in (("sure", ()), ("sure", (1, 0, 2)), ("not",), ("not", (1, 0, 2), ()), ["sure"], ["not", (1, 0, 2)],
                      ("Sure",), ("order", (1, 0, 2)), (Same(),), (Same(), (1, 0, 2)), ("sure ",), (b"sure",), "sure", ("",),
                      ("not", 1, 0, 2), (("sure",),), (None,), (True, (1, 0, 2)), {"sure": 0}, ("odds", 0)):
            self.refuses(BadPaper, "form", check_sure, SOME, 1, 0, paper)
            self.refuses(BadPaper, "form", check_sure, SOME, 0, 1, paper)
        self.tells("sure", check_sure, SOME, 1, 0, Row((Text("sure"),)))
        self.tells("not", check_sure, SOME, 0, 1, Row((Text("not"), Row((1, Integer(0), 2)))))

    def test_odd_orders(self):
        for thing in ODD + ((1, 0), (1, 0, 2, 3), [1, 0, 2], (True, 0, 2), (0, 1, 2), (2, 1, 0), (1, 0, Same()), None):
            self.refuses(BadPaper, "not", check_sure, SOME, 0, 1, ("not", thing))
        # An explanation in which they stand as they are said to stand surely tells nothing.
        self.refuses(BadPaper, "not", check_sure, SOME, 1, 0, ("not", (1, 0, 2)))
        self.refuses(BadPaper, "sure", check_sure, SOME, 0, 1, ("sure",))

    def test_papers_told_may_be_passed_on_of_seven_calls(self):
        chance = random.Random(470)
        for sorts in [(sort,) for sort in webfacts.SORTS] + list(webfacts.MIXES):
            for history in webfacts.mixed(chance, sorts, 7, 4, 9):
                if oracle.explanations(history) and len(history[1]) > 1:
                    one, two = chance.sample(range(len(history[1])), 2)
                    paper = sure_paper(history, one, two)
                    self.tells(paper[0], check_sure, history, one, two, paper)


class TestRefusals(Checks, unittest.TestCase):
    def test_histories(self):
        self.refuses_histories(sure_pairs)
        self.refuses_histories(is_surely_ahead, None, None)
        self.refuses_histories(sure_paper, None, None)
        self.refuses_histories(check_sure, None, None, None)

    def test_numbers(self):
        for function, more in ((is_surely_ahead, ()), (sure_paper, ()), (check_sure, (None,))):
            for history in (SOME, BARRED, EIGHT):
                many = len(history[1])
                for thing in ODD:
                    right = type(thing) is int and 0 <= thing < many
                    # What is the same again is refused as the second one.
                    if not right or thing == many - 1:
                        self.refuses(BadNumber, thing, function, history, thing, many - 1, *more)
                    if not right or thing == 0:
                        self.refuses(BadNumber, thing, function, history, 0, thing, *more)
                # Of two the first one is told.
                self.refuses(BadNumber, -1, function, history, -1, -2, *more)
                self.refuses(BadNumber, many, function, history, 0, many, *more)
                self.refuses(BadNumber, 1, function, history, 1, 1, *more)
            self.refuses(BadNumber, 0, function, (("cell",), ()), 0, 0, *more)

    def test_seven_calls_and_eight(self):
        seven = (("queue",), EIGHT[1][:7])
        self.tells((), sure_pairs, seven)
        self.tells(False, is_surely_ahead, seven, 0, 6)
        self.assertEqual(sure_paper(seven, 0, 6)[0], "not")
        self.tells("not", check_sure, seven, 0, 6, ("not", (6, 5, 4, 3, 2, 1, 0)))
        self.tells(tuple((one, two) for one in range(7) for two in range(one + 1, 7)), sure_pairs,
                   (("queue",), behind([("put", at, None) for at in range(7)])))
        barred = (("queue",), behind([("put", at, None) for at in range(7)] + [("take", None, 5)]))
        for history in (EIGHT, barred):
            self.refuses(TooMany, 7, sure_pairs, history)
            self.refuses(TooMany, 7, is_surely_ahead, history, 0, 1)
            self.refuses(TooMany, 7, sure_paper, history, 0, 1)
            for paper in (None, ("sure",), ("not", ())):
                self.refuses(TooMany, 7, check_sure, history, 0, 1, paper)

    def test_not_explained(self):
        self.refuses(NotExplained, BARRED, sure_pairs, BARRED)
        self.refuses(NotExplained, BARRED, is_surely_ahead, BARRED, 0, 1)
        self.refuses(NotExplained, BARRED, sure_paper, BARRED, 0, 1)
        for paper in (None, ("sure",), ("not", (0, 1)), ("not", ())):
            self.refuses(NotExplained, BARRED, check_sure, BARRED, 0, 1, paper)
        # All else is refused ahead of that.
        self.refuses(BadNumber, 2, is_surely_ahead, BARRED, 2, 0)
        self.refuses(BadHistory, "form", is_surely_ahead, list(BARRED), 0, 1)
        own = Row(BARRED)
        try:
            sure_pairs(own)
        except NotExplained as error:
            self.assertIs(error.given, own)


if __name__ == "__main__":
    unittest.main()
