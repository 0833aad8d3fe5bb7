"""What the tests of papers of every sort do alike: tell them, check them, and what is near them."""

import oracle
from checks import Checks, alike
from oracle import ahead
from samples import ODD, Row, Same, Text
from shortbars.calls import calls_of_lot
from shortbars.errors import BadPaper


def is_number(thing, many):
    """Whether it is one of so many numbers, and of no class of its own."""
    return type(thing) is int and 0 <= thing < many


def is_ascending_row(thing):
    """Whether it is a tuple of integers, each greater than the one ahead."""
    return type(thing) is tuple and all(type(part) is int for part in thing) and list(thing) == sorted(set(thing))


def is_explanation(history, thing):
    """Whether it is an explanation, without trying all."""
    sorts, calls = history
    if type(thing) is not tuple or not all(type(part) is int for part in thing):
        return False
    if sorted(thing) != list(range(len(calls))):
        return False
    if any(ahead(calls[far], calls[near]) for at, near in enumerate(thing) for far in thing[at + 1:]):
        return False
    return oracle.run(history, thing)[0] == tuple((True, calls[at][5]) for at in thing)


class PaperChecks(Checks):
    """Beside unittest.TestCase.

    A class has `tell`, `check` (the functions), SIZES (how many things papers of each word are), SORT,
    ONE (the one call of a history that is explained), GOODS (triples of calls, a paper that holds, and
    papers near it that do not), `holds(history, paper)`, `small()` and `few()` (histories to compare
    with all their orders, and with all papers), `tens()` (histories of up to 10 calls),
    `papers(history)` (papers to try), `lot(history, paper)` (the numbers of the calls that bar alone).
    """

    def test_one_of_each_word(self):
        for calls, good, near in self.GOODS:
            history = ((self.SORT,), calls)
            self.assertTrue(self.holds(history, good), good)
            self.tells(good[0], self.check, history, good)
            self.assertEqual(good[0] == "order", self.tell(history)[0] == "order")
            for paper in near:
                self.assertFalse(self.holds(history, paper), paper)
                self.refuses(BadPaper, paper[0], self.check, history, paper)
        self.assertEqual({good[0] for _, good, _ in self.GOODS}, set(self.SIZES))

    def test_odd_things_in_each_place(self):
        for calls, good, _ in self.GOODS:
            history = ((self.SORT,), calls)
            for place in range(1, len(good)):
                for thing in ODD + ((good[place],), [good[place]], (True, Same()), ((0, 1), 2)):
                    paper = good[:place] + (thing,) + good[place + 1:]
                    if self.holds(history, paper):
                        self.tells(paper[0], self.check, history, paper)
                    else:
                        self.refuses(BadPaper, paper[0], self.check, history, paper)

    def test_no_calls(self):
        self.tells(("order", ()), self.tell, ((self.SORT,), ()))
        self.tells("order", self.check, ((self.SORT,), ()), ("order", ()))
        for word, size in self.SIZES.items():
            for thing in ODD:
                paper = (word,) + (thing,) * (size - 1)
                if not alike(paper, ("order", ())):
                    self.refuses(BadPaper, word, self.check, ((self.SORT,), ()), paper)

    def test_forms(self):
        one = ((self.SORT,), (self.ONE,))
        for thing in ODD:
            right = type(thing) is tuple and len(thing) == 2 and alike(thing[0], "order")
            if right and alike(thing[1], (0,)):
                self.tells("order", self.check, one, thing)
            else:
                self.refuses(BadPaper, "order" if right else "form", self.check, one, thing)
        for word, size in self.SIZES.items():
            for many in range(7):
                if many + 1 != size:
                    self.refuses(BadPaper, "form", self.check, one, (word,) + (0,) * many)
                self.refuses(BadPaper, "form", self.check, one, [word] + [0] * many)
                for other in (word.upper(), word + " ", Same(), [word], (word,), word.encode(), None, True, 0):
                    self.refuses(BadPaper, "form", self.check, one, (other,) + (0,) * many)
        words = {"order", "unwritten", "unput", "strange", "twice", "early", "old", "odds", "turn", "full", "pile", "late",
                 "covered", "crowd", "back", "many", "few", "gap", "shut", "sure", "not", ""}
        for word in words - set(self.SIZES):
            for many in range(5):
                self.refuses(BadPaper, "form", self.check, one, (word,) + (0,) * many)

    def test_histories_are_refused(self):
        good = (self.SORT, ("room", 9)) if isinstance(self.SORT, tuple) else (self.SORT,)
        self.refuses_histories(self.tell)
        self.refuses_histories(self.check, None)
        self.refuses_sorts(self.tell, good)
        self.refuses_sorts(self.check, good, None)

    def test_the_word_that_is_told_is_plain(self):
        self.tells("order", self.check, ((self.SORT,), (self.ONE,)), Row((Text("order"), Row((False + 0,)))))

    def test_order_is_told_just_where_one_is(self):
        words = set()
        for history in self.small():
            paper = self.tell(history)
            words.add(paper[0])
            self.assertEqual(paper[0] == "order", oracle.explanations(history) != [], history)
            self.assertTrue(self.holds(history, paper), (history, paper))
            self.tells(paper[0], self.check, history, paper)
        self.assertEqual(words, set(self.SIZES))

    def test_all_papers_near(self):
        told = {}
        for history in self.few():
            explained = oracle.explanations(history) != []
            for paper in self.papers(history):
                wanted = self.holds(history, paper)
                told.setdefault(paper[0], set()).add(wanted)
                if wanted:
                    self.tells(paper[0], self.check, history, paper)
                    self.assertEqual(paper[0] == "order", explained)
                else:
                    self.refuses(BadPaper, paper[0], self.check, history, paper)
        self.assertEqual(told, {word: {True, False} for word in self.SIZES})

    def test_what_a_paper_names_bars_alone(self):
        seen = set()
        for history in self.few():
            for paper in self.papers(history):
                if paper[0] != "order" and self.holds(history, paper):
                    alone = calls_of_lot(history, tuple(sorted(self.lot(history, paper))))
                    self.assertEqual(oracle.explanations(alone), [], (history, paper))
                    seen.add((paper[0], len(alone[1]) < len(history[1])))
        self.assertTrue({(word, True) for word in self.SIZES if word not in ("order", "gap")} <= seen)

    def test_ten_calls(self):
        words = set()
        for history in self.tens():
            paper = self.tell(history)
            words.add((paper[0], len(history[1]) > 7))
            self.tells(paper[0], self.check, history, paper)
            self.assertTrue(self.holds(history, paper), (history, paper))
        self.assertEqual({word for word, many in words if many}, set(self.SIZES))
