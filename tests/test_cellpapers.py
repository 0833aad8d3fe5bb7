"""Papers on cells: told, checked, and refused: [12]."""

import random
import unittest
from itertools import product

import oracle
from cellfacts import mark_of
from checks import Checks, alike
from oracle import ahead
from samples import ODD, Row, Same, Text, every, mixed, together
from shortbars.calls import calls_of_lot
from shortbars.cellpapers import cell_paper, check_cell
from shortbars.errors import BadPaper

SIZES = {"order": 2, "unwritten": 2, "early": 3, "old": 3, "odds": 5}
WORDS = (("write", 0, None), ("write", 1, None), ("read", None, 0), ("read", None, 1), ("read", None, None))


def is_number(thing, calls):
    return type(thing) is int and 0 <= thing < len(calls)


def holds(history, paper):
    """Whether a paper of a right form is as told, straight from the words."""
    calls = history[1]
    word, things = paper[0], paper[1:]
    if word == "order":
        return any(alike(things[0], row) for row in oracle.explanations(history))
    if not all(is_number(thing, calls) for thing in things):
        return False
    row = [calls[thing] for thing in things]
    marks = [mark_of(call) for call in row]
    if word == "unwritten":
        return row[0][3] == "read" and marks[0] is not None \
            and ("write", marks[0]) not in [call[3:5] for call in calls]
    if word == "early":
        return row[0][3] == "read" and row[1][3] == "write" and marks[0] == marks[1] and ahead(row[0], row[1])
    if word == "old":
        return row[1][3] == "read" and marks[1] is None and marks[0] is not None and ahead(row[0], row[1])
    return ahead(row[0], row[1]) and ahead(row[2], row[3]) and marks[0] == marks[3] and marks[1] == marks[2] \
        and marks[0] != marks[1] and None not in marks


class TestOneOfEachWord(Checks, unittest.TestCase):
    def check(self, calls, good, near):
        """A paper that holds, and papers near it that do not."""
        history = (("cell",), calls)
        self.tells(good[0], check_cell, history, good)
        self.assertTrue(holds(history, good))
        for paper in near:
            self.assertFalse(holds(history, paper))
            self.refuses(BadPaper, paper[0], check_cell, history, paper)

    def test_order(self):
        calls = together([("read", None, 5), ("write", 5, None), ("read", None, None)])
        self.check(calls, ("order", (2, 1, 0)),
                   [("order", (2, 0, 1)), ("order", (1, 2, 0)), ("order", [2, 1, 0]), ("order", (2, 1)), ("order", None),
                    ("unwritten", 0), ("early", 0, 1), ("old", 1, 2), ("odds", 0, 1, 1, 0), ("order", (2, True, 0))])
        self.tells(("order", (2, 1, 0)), cell_paper, (("cell",), calls))

    def test_unwritten(self):
        calls = ((0, 1, 0, "write", 5, None), (2, 3, 0, "read", None, 6), (4, 5, 0, "read", None, 5))
        self.check(calls, ("unwritten", 1), [("unwritten", 0), ("unwritten", 2), ("unwritten", 3), ("unwritten", True)])
        self.tells(("unwritten", 1), cell_paper, (("cell",), calls))
        none = ((0, 1, 0, "read", None, None),)
        self.check(none, ("order", (0,)), [("unwritten", 0), ("unwritten", None)])

    def test_early(self):
        calls = ((0, 1, 0, "read", None, 5), (2, 5, 0, "write", 5, None), (3, 4, 0, "write", 6, None),
                 (6, 7, 0, "read", None, 5))
        self.check(calls, ("early", 0, 1),
                   [("early", 0, 2), ("early", 1, 0), ("early", 3, 1), ("early", 0, 0), ("early", 0, 3), ("early", 0, 4),
                    ("early", False, 1), ("early", 0, True), ("early", 0, None), ("early", (0,), 1)])
        self.tells(("early", 0, 1), cell_paper, (("cell",), calls))

    def test_old(self):
        calls = ((0, 1, 0, "write", 5, None), (2, 3, 0, "read", None, None), (4, 5, 0, "read", None, 5))
        self.check(calls, ("old", 0, 1), [("old", 1, 0), ("old", 2, 1), ("old", 0, 2), ("old", 1, 1), ("old", 0, 3)])
        self.tells(("old", 0, 1), cell_paper, (("cell",), calls))
        # A "read" of the value is of its kin, as its "write" is.
        calls = ((0, 5, 0, "write", 5, None), (1, 2, 0, "read", None, 5), (3, 4, 0, "read", None, None))
        self.check(calls, ("old", 1, 2), [("old", 0, 2), ("old", 2, 2)])
        self.tells(("old", 1, 2), cell_paper, (("cell",), calls))

    def test_odds(self):
        calls = ((0, 1, 0, "write", 5, None), (2, 3, 0, "write", 6, None), (4, 5, 0, "read", None, 5))
        self.check(calls, ("odds", 0, 1, 1, 2),
                   [("odds", 0, 1, 1, 0), ("odds", 1, 2, 0, 2), ("odds", 0, 2, 0, 2), ("odds", 2, 1, 1, 0),
                    ("odds", 0, 1, 0, 1), ("odds", 0, 1, 1, None), ("odds", 0, 1, 1, 3), ("odds", False, 1, 1, 2)])
        self.assertEqual(cell_paper((("cell",), calls))[0], "odds")
        # All four may be calls of their own.
        calls = ((0, 2, 0, "write", 5, None), (1, 3, 0, "write", 6, None), (4, 6, 0, "read", None, 5),
                 (5, 7, 0, "read", None, 6))
        self.check(calls, ("odds", 0, 3, 1, 2), [("odds", 0, 2, 1, 3), ("odds", 3, 0, 1, 2)])

    def test_none_is_at_odds_by_old_alone(self):
        calls = ((0, 1, 0, "read", None, None), (2, 3, 0, "write", 5, None), (4, 5, 0, "read", None, None))
        self.check(calls, ("old", 1, 2), [("odds", 0, 1, 1, 2), ("odds", 1, 2, 0, 1)])

    def test_no_calls(self):
        self.tells(("order", ()), cell_paper, (("cell",), ()))
        self.check((), ("order", ()), [("order", (0,)), ("unwritten", 0), ("early", 0, 0), ("odds", 0, 0, 0, 0)])


class TestAgainstTheOracle(Checks, unittest.TestCase):
    def small(self):
        for many in (1, 2, 3):
            yield from every("cell", WORDS, many)
        yield from mixed(random.Random(51), ("cell",), 6, 4, 900)

    def test_order_is_told_just_where_one_is(self):
        words = set()
        for history in self.small():
            paper = cell_paper(history)
            words.add(paper[0])
            self.assertEqual(paper[0] == "order", oracle.explanations(history) != [], history)
            self.assertTrue(holds(history, paper), (history, paper))
            self.tells(paper[0], check_cell, history, paper)
            self.bars(history, paper)
        self.assertEqual(words, set(SIZES))

    def bars(self, history, paper):
        """The calls of the paper, with the writes of their values, are not explained either."""
        if paper[0] != "order":
            marks = {mark_of(history[1][number]) for number in paper[1:]}
            writes = [at for at, call in enumerate(history[1]) if call[3] == "write" and call[4] in marks]
            part = calls_of_lot(history, tuple(sorted(set(paper[1:]) | set(writes))))
            self.assertEqual(oracle.explanations(part), [])

    def test_all_papers_of_small_ones(self):
        chance = random.Random(52)
        for history in list(every("cell", WORDS, 3))[::9] + list(mixed(chance, ("cell",), 4, 3, 40)):
            many = len(history[1])
            explained = oracle.explanations(history) != []
            for word, size in SIZES.items():
                for things in product(range(many), repeat=size - 1):
                    paper = (word,) + things if word != "order" else (word, things)
                    if holds(history, paper):
                        self.tells(word, check_cell, history, paper)
                        self.assertEqual(word == "order", explained)
                    else:
                        self.refuses(BadPaper, word, check_cell, history, paper)
            for row in oracle.orders(history):
                if holds(history, ("order", row)):
                    self.tells("order", check_cell, history, ("order", row))
                else:
                    self.refuses(BadPaper, "order", check_cell, history, ("order", row))

    def test_ten_calls(self):
        words = set()
        for history in mixed(random.Random(53), ("cell",), 10, 5, 500):
            paper = cell_paper(history)
            words.add(paper[0])
            self.tells(paper[0], check_cell, history, paper)
            if paper[0] == "order":
                told, _ = oracle.run(history, paper[1])
                self.assertEqual(told, tuple((True, call[5]) for call in (history[1][at] for at in paper[1])))
                self.assertFalse(any(ahead(history[1][far], history[1][near])
                                     for at, near in enumerate(paper[1]) for far in paper[1][at + 1:]))
        self.assertEqual(words, set(SIZES))
        all_ten = together([("write", at, None) for at in range(5)] + [("read", None, at) for at in range(5)])
        self.assertEqual(cell_paper((("cell",), all_ten))[0], "order")


class TestRefusals(Checks, unittest.TestCase):
    ONE = (("cell",), ((0, 1, 0, "write", 1, None),))

    def test_histories(self):
        self.refuses_histories(cell_paper)
        self.refuses_sorts(cell_paper, ("cell",))
        self.refuses_histories(check_cell, None)
        self.refuses_sorts(check_cell, ("cell",), None)

    def test_forms(self):
        for thing in ODD:
            right = type(thing) is tuple and len(thing) == 2 and type(thing[0]) is str and thing[0] == "order"
            if right and thing[1] == (0,):
                self.tells("order", check_cell, self.ONE, thing)
            else:
                self.refuses(BadPaper, "order" if right else "form", check_cell, self.ONE, thing)
        for word, size in SIZES.items():
            for many in range(8):
                paper = (word,) + (0,) * many
                if many + 1 != size:
                    self.refuses(BadPaper, "form", check_cell, self.ONE, paper)
                self.refuses(BadPaper, "form", check_cell, self.ONE, list(paper))
                self.refuses(BadPaper, "form", check_cell, self.ONE, (word.upper(),) + (0,) * many)
                self.refuses(BadPaper, "form", check_cell, self.ONE, (Same(),) + (0,) * many)
        for word in ("", "orders", "unput", "twice", "turn", "full", b"order", None, True, ("order",), ["order"], "form"):
            self.refuses(BadPaper, "form", check_cell, self.ONE, (word, (0,)))

    def test_odd_things_in_each_place(self):
        for thing in ODD:
            if not (type(thing) is tuple and thing == (0,) and type(thing[0]) is int):
                self.refuses(BadPaper, "order", check_cell, self.ONE, ("order", thing))
            self.refuses(BadPaper, "unwritten", check_cell, self.ONE, ("unwritten", thing))
            for word in ("early", "old"):
                self.refuses(BadPaper, word, check_cell, self.ONE, (word, thing, 0))
                self.refuses(BadPaper, word, check_cell, self.ONE, (word, 0, thing))
            for place in range(4):
                things = [0, 0, 0, 0]
                things[place] = thing
                self.refuses(BadPaper, "odds", check_cell, self.ONE, ("odds",) + tuple(things))

    def test_the_word_that_is_told_is_plain(self):
        self.tells("order", check_cell, self.ONE, Row((Text("order"), Row((0,)))))


if __name__ == "__main__":
    unittest.main()
