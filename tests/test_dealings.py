"""Among how few queues, and cells, values can be dealt: [52], [53]."""

import random
import unittest
from itertools import combinations, product

import cellfacts
import oracle
import queuefacts
from checks import Checks, alike
from samples import ODD, TOP, Integer, Row, Same, behind, matched, together
from shortbars.dealings import cell_dealing, check_cell_dealing, check_queue_dealing, fewest_cells, fewest_queues
from shortbars.dealings import queue_dealing
from shortbars.errors import BadHistory, BadPaper

# 5 is out of turn with 6, and 6 with 7.
THREE = (("queue",), behind([("put", at, None) for at in (5, 6, 7)] + [("take", None, at) for at in (7, 6, 5)]))
# As long as each of 5, 6 and 7 is what the cell is, so are the others.
CELLS = (("cell",), behind([("write", at, None) for at in (5, 6, 7)] + [("read", None, at) for at in (5, 6, 7)]))


def values_of(history):
    return sorted({call[4] if call[4] is not None else call[5] for call in history[1]})


def alone(history, some):
    return history[0], tuple(call for call in history[1] if (call[4] if call[4] is not None else call[5]) in some)


def is_right(history, dealing):
    """Whether any value is a right dealing, by the words."""
    if type(dealing) is not tuple or not all(type(pair) is tuple and len(pair) == 2 for pair in dealing):
        return False
    if not all(type(part) is int for pair in dealing for part in pair) or [value for value, _ in dealing] != values_of(history):
        return False
    if not all(0 <= number <= 9 for _, number in dealing):
        return False
    return all(oracle.explanations(alone(history, [value for value, other in dealing if other == number]))
               for number in {number for _, number in dealing})


def dealings(values, many):
    """All dealings to so many, the first value to 0, each new one to the next number."""
    for row in product(range(many), repeat=len(values)):
        if all(number <= max(row[:at], default=-1) + 1 for at, number in enumerate(row)):
            yield tuple(zip(values, row))


def fewest_by_trying(history):
    values = values_of(history)
    for many in range(len(values) + 1):
        if any(is_right(history, dealing) for dealing in dealings(values, many)):
            return many
    return None


def nested(chance, many, sort="queue"):
    """Values that are put, or written, and taken, or read, in some turn, with some overlap."""
    words = {"queue": ("put", "take"), "cell": ("write", "read")}[sort]
    row = [(words[0], value, None) for value in range(many)] + [(words[1], None, value) for value in range(many)]
    left, right = row[:many], row[many:]
    chance.shuffle(left)
    chance.shuffle(right)
    spans = [(at, at + chance.choice((0.5, 0.5, 1.7, 3.2)) + chance.random() / 100) for at in range(2 * many)]
    ends = sorted([(begin, at, 0) for at, (begin, _) in enumerate(spans)] + [(end, at, 1) for at, (_, end) in enumerate(spans)])
    moments = {(at, kind): place for place, (_, at, kind) in enumerate(ends)}
    drop = chance.randrange(3)
    calls = [(moments[at, 0], moments[at, 1], 0) + call for at, call in enumerate(left + right)]
    return (sort,), tuple(calls[:len(calls) - drop])


def queues(seed=580):
    yield ("queue",), ()
    for history in matched(random.Random(seed), "queue", 6, 250):
        if queuefacts.has_rows(history):
            yield history
    chance = random.Random(seed + 1)
    for at in range(250):
        history = nested(chance, 2 + at % 3)
        if queuefacts.has_rows(history):
            yield history


def has_cells(history):
    calls = history[1]
    for call in calls:
        if call[3] == "read":
            writes = [other for other in calls if other[3:5] == ("write", call[5])]
            if call[5] is None or not writes or oracle.ahead(call, writes[0]):
                return False
    return True


def cells(seed=590):
    yield ("cell",), ()
    chance = random.Random(seed)
    for at in range(600):
        history = nested(chance, 2 + at % 3, "cell")
        if chance.randrange(3) == 0 and len(history[1]) > 2:
            # One read more than there was.
            call = history[1][-1]
            history = (history[0], history[1] + ((call[1] + 40, call[1] + 41, 0, "read", None, chance.choice(values_of(history))),))
        if has_cells(history):
            yield history


class TestQueues(Checks, unittest.TestCase):
    def test_some(self):
        self.tells(3, fewest_queues, THREE)
        paper = (((5, 0), (6, 1), (7, 2)), (5, 6, 7))
        self.tells(3, check_queue_dealing, THREE, paper)
        dealing, chain = queue_dealing(THREE)
        self.assertEqual(chain, (5, 6, 7))
        self.assertEqual([value for value, _ in dealing], [5, 6, 7])
        row = (("queue",), behind([("put", 5, None), ("put", 6, None), ("take", None, 5), ("take", None, 6)]))
        self.tells(1, fewest_queues, row)
        self.tells(1, check_queue_dealing, row, queue_dealing(row))
        for paper in ((((5, 4), (6, 4)), (5,)), (((5, 9), (6, 9)), (6,)), (((5, 0), (6, 0)), (6,))):
            self.tells(1, check_queue_dealing, row, paper)

    def test_no_values(self):
        self.tells(0, fewest_queues, (("queue",), ()))
        self.tells(((), ()), queue_dealing, (("queue",), ()))
        self.tells(0, check_queue_dealing, (("queue",), ()), ((), ()))

    def test_by_trying_all_dealings(self):
        seen = {}
        for history in queues():
            wanted = fewest_by_trying(history)
            self.tells(wanted, fewest_queues, history)
            paper = queue_dealing(history)
            self.assertTrue(alike(paper, tuple(tuple(part) for part in paper)) and len(paper) == 2)
            self.assertTrue(is_right(history, paper[0]), (history, paper))
            self.assertTrue(self.is_chain(history, paper[1]))
            self.assertEqual(len(paper[1]), len({number for _, number in paper[0]}))
            self.tells(wanted, check_queue_dealing, history, paper)
            seen[wanted] = seen.get(wanted, 0) + 1
        self.assertTrue(set(seen) >= {0, 1, 2, 3} and seen[2] > 20 and seen[3] > 5, seen)

    def is_chain(self, history, chain):
        if type(chain) is not tuple or not all(type(value) is int and value in values_of(history) for value in chain):
            return False
        return all(queuefacts.out_of_turn(history, one, two) for one, two in zip(chain, chain[1:]))

    def test_ten_values(self):
        puts = [("put", at, None) for at in range(10)]
        self.tells(1, fewest_queues, (("queue",), together(puts)))
        self.tells(1, fewest_queues, (("queue",), behind(puts)))
        five = (("queue",), behind([("put", at, None) for at in range(5)] + [("take", None, 4 - at) for at in range(5)]))
        self.tells(5, fewest_queues, five)
        self.assertEqual(queue_dealing(five)[1], (0, 1, 2, 3, 4))
        # Those that are never taken stay, each of them: as many as there are can be out of turn with one.
        kept = (("queue",), behind([("put", at, None) for at in range(9)] + [("take", None, 8)]))
        self.tells(2, fewest_queues, kept)
        for history in (five, kept):
            self.tells(fewest_queues(history), check_queue_dealing, history, queue_dealing(history))
        spread = tuple((value, value) for value in range(10))
        history = (("queue",), together(puts))
        self.refuses(BadPaper, "sum", check_queue_dealing, history, (spread, (0,)))
        self.refuses(BadPaper, "dealing", check_queue_dealing, history, (spread[:9] + ((9, 10),), (0,)))

    def test_each_word(self):
        good = ((5, 0), (6, 1), (7, 2))
        for paper, word in (
                ((good,), "form"), ((good, (5, 6, 7), ()), "form"), ([good, (5, 6, 7)], "form"), ((), "form"), (None, "form"),
                ("ab", "form"), ((good[:2], (5, 6, 7)), "dealing"), ((good + ((8, 3),), (5, 6, 7)), "dealing"),
                ((((5, 0), (6, 0), (7, 1)), (5, 6)), "dealing"), (((good[1], good[0], good[2]), (5, 6, 7)), "dealing"),
                ((((5, 0), (6, 1), (7, 10)), (5, 6, 7)), "dealing"), ((((5, 0), (6, 1), (7, -1)), (5, 6, 7)), "dealing"),
                ((((5, 0), (6, 1), (7, True)), (5, 6, 7)), "dealing"), ((((5, False), (6, 1), (7, 2)), (5, 6, 7)), "dealing"),
                ((list(good), (5, 6, 7)), "dealing"), ((([5, 0],) + good[1:], (5, 6, 7)), "dealing"),
                ((((5, 0, 0),) + good[1:], (5, 6, 7)), "dealing"), ((((5,),) + good[1:], (5, 6, 7)), "dealing"),
                ((((5, 0), (5, 0), (6, 1), (7, 2)), (5, 6, 7)), "dealing"), ((good, [5, 6, 7]), "chain"),
                ((good, (5, 7, 6)), "chain"), ((good, (7, 6, 5)), "chain"), ((good, (5, 5)), "chain"), ((good, (8,)), "chain"),
                ((good, (5, 6, 8)), "chain"), ((good, (True,)), "chain"), ((good, None), "chain"), ((good, (Same(),)), "chain"),
                ((good, (5, 6)), "sum"), ((good, (5, 7)), "sum"), ((good, ()), "sum"), ((good, (5,)), "sum"),
                (((), (8,)), "dealing"), (((), ()), "dealing")):
            self.refuses(BadPaper, word, check_queue_dealing, THREE, paper)
        self.tells(3, check_queue_dealing, THREE, (((5, 9), (6, 3), (7, 0)), (5, 6, 7)))
        own = Row((Row((Row((Integer(5), Integer(9))), (6, 3), (7, 0))), Row((Integer(5), 6, 7))))
        self.tells(3, check_queue_dealing, THREE, own)
        bits = (("queue",), behind([("put", 0, None), ("put", 1, None)]))
        self.tells(1, check_queue_dealing, bits, (((0, 0), (1, 0)), (1,)))
        for dealing in (((False, 0), (1, 0)), ((0, 0), (True, 0)), ((0, 0), (Same(), 0)), ((0, 0), (None, 0)), ((0, 0), (1, Same()))):
            self.refuses(BadPaper, "dealing", check_queue_dealing, bits, (dealing, (1,)))
        for chain in ((True,), (False,), (Same(),), (None,)):
            self.refuses(BadPaper, "chain", check_queue_dealing, bits, (((0, 0), (1, 0)), chain))

    def test_papers_near(self):
        told = set()
        for history in list(queues(600))[::6]:
            values = values_of(history)
            chains = [()] + [row for many in (1, 2, 3) for row in product(values, repeat=many)]
            chance = random.Random(601)
            for dealing in list(dealings(values, 3)):
                right = is_right(history, dealing)
                for chain in chance.sample(chains, min(12, len(chains))):
                    word = None
                    if not right:
                        word = "dealing"
                    elif not self.is_chain(history, chain):
                        word = "chain"
                    elif len(chain) != len({number for _, number in dealing}):
                        word = "sum"
                    told.add(word)
                    if word:
                        self.refuses(BadPaper, word, check_queue_dealing, history, (dealing, chain))
                    else:
                        self.tells(len(chain), check_queue_dealing, history, (dealing, chain))
                        self.tells(len(chain), fewest_queues, history)
        self.assertEqual(told, {None, "dealing", "chain", "sum"})

    def test_refusals(self):
        for function, more in ((fewest_queues, ()), (queue_dealing, ()), (check_queue_dealing, (None,))):
            self.refuses_histories(function, *more)
            self.refuses_sorts(function, ("queue",), *more)
            for calls in ([("take", None, None)], [("put", 5, None), ("take", None, 5), ("take", None, 5)],
                          [("take", None, 5)], [("take", None, 5), ("put", 5, None)],
                          [("put", 5, None), ("take", None, None)]):
                history = (("queue",), behind(calls))
                self.refuses(BadHistory, "rows", function, history, *more)
        for thing in ODD:
            word = "form" if type(thing) is not tuple or len(thing) != 2 else "dealing"
            if not alike(thing, ((), ())):
                self.refuses(BadPaper, word, check_queue_dealing, THREE, thing)
            empty = (("queue",), ())
            for paper in ((thing, ()), ((), thing)):
                if alike(paper, ((), ())):
                    self.tells(0, check_queue_dealing, empty, paper)
                else:
                    self.refuses(BadPaper, "dealing" if paper[1] == () and type(paper[1]) is tuple and thing is paper[0]
                                 else "chain", check_queue_dealing, empty, paper)


class TestCells(Checks, unittest.TestCase):
    def test_some(self):
        self.tells(3, fewest_cells, CELLS)
        self.tells(3, check_cell_dealing, CELLS, (((5, 0), (6, 1), (7, 2)), (5, 6, 7)))
        self.assertEqual(cell_dealing(CELLS)[1], (5, 6, 7))
        row = (("cell",), behind([("write", 5, None), ("read", None, 5), ("write", 6, None), ("read", None, 6)]))
        self.tells(1, fewest_cells, row)
        self.tells(1, check_cell_dealing, row, (((5, 2), (6, 2)), (6,)))
        # One that is short, within two spans.
        short = (("cell",), behind([("write", 5, None), ("write", 6, None), ("write", 9, None), ("read", None, 5),
                                    ("read", None, 6)]))
        self.tells(3, fewest_cells, short)
        self.assertEqual(cell_dealing(short)[1], (5, 6, 9))
        self.tells(1, fewest_cells, (("cell",), behind([("write", at, None) for at in range(10)])))

    def test_no_values(self):
        self.tells(0, fewest_cells, (("cell",), ()))
        self.tells(((), ()), cell_dealing, (("cell",), ()))
        self.tells(0, check_cell_dealing, (("cell",), ()), ((), ()))

    def test_by_trying_all_dealings(self):
        seen = {}
        for history in cells():
            wanted = fewest_by_trying(history)
            self.tells(wanted, fewest_cells, history)
            paper = cell_dealing(history)
            self.assertTrue(alike(paper, tuple(tuple(part) for part in paper)) and len(paper) == 2)
            self.assertTrue(is_right(history, paper[0]), (history, paper))
            self.assertTrue(self.is_crowd(history, paper[1]))
            self.assertEqual(len(paper[1]), len({number for _, number in paper[0]}))
            self.tells(wanted, check_cell_dealing, history, paper)
            seen[wanted] = seen.get(wanted, 0) + 1
        self.assertTrue(set(seen) >= {0, 1, 2, 3} and min(seen[2], seen[3]) > 20, seen)

    def is_crowd(self, history, crowd):
        if type(crowd) is not tuple or not all(type(value) is int and value in values_of(history) for value in crowd):
            return False
        odds = cellfacts.odds(history)
        return list(crowd) == sorted(set(crowd)) and all(pair in odds for pair in combinations(crowd, 2))

    def test_five_values(self):
        writes, reads = [("write", at, None) for at in range(5)], [("read", None, at) for at in range(5)]
        history = (("cell",), behind(writes + reads))
        self.tells(5, fewest_cells, history)
        self.tells(5, check_cell_dealing, history, cell_dealing(history))
        self.tells(1, fewest_cells, (("cell",), together(writes + reads)))

    def test_each_word(self):
        good = ((5, 0), (6, 1), (7, 2))
        for paper, word in (
                ((good,), "form"), ((good, (5, 6, 7), ()), "form"), ([good, (5, 6, 7)], "form"), ((), "form"), (None, "form"),
                ("ab", "form"), ((good[:2], (5, 6, 7)), "dealing"), ((good + ((8, 3),), (5, 6, 7)), "dealing"),
                ((((5, 0), (6, 0), (7, 1)), (5, 6)), "dealing"), (((good[1], good[0], good[2]), (5, 6, 7)), "dealing"),
                ((((5, 0), (6, 1), (7, 10)), (5, 6, 7)), "dealing"), ((((5, 0), (6, 1), (7, True)), (5, 6, 7)), "dealing"),
                ((list(good), (5, 6, 7)), "dealing"), ((([5, 0],) + good[1:], (5, 6, 7)), "dealing"),
                ((good, [5, 6, 7]), "crowd"), ((good, (5, 7, 6)), "crowd"), ((good, (5, 5)), "crowd"), ((good, (8,)), "crowd"),
                ((good, (5, 6, 8)), "crowd"), ((good, (True,)), "crowd"), ((good, None), "crowd"), ((good, (Same(),)), "crowd"),
                ((good, (None, 5)), "crowd"), ((good, (5, 6)), "sum"), ((good, (5, 7)), "sum"), ((good, ()), "sum"),
                (((), ()), "dealing")):
            self.refuses(BadPaper, word, check_cell_dealing, CELLS, paper)
        row = (("cell",), behind([("write", 5, None), ("read", None, 5), ("write", 6, None), ("read", None, 6)]))
        self.refuses(BadPaper, "crowd", check_cell_dealing, row, (((5, 0), (6, 1)), (5, 6)))
        self.refuses(BadPaper, "sum", check_cell_dealing, row, (((5, 0), (6, 1)), (5,)))
        own = Row((Row((Row((Integer(5), Integer(9))), (6, 3), (7, 0))), Row((Integer(5), 6, 7))))
        self.tells(3, check_cell_dealing, CELLS, own)

    def test_papers_near(self):
        told = set()
        for history in list(cells(610))[::6]:
            values = values_of(history)
            crowds = [()] + [row for many in (1, 2, 3) for row in combinations(values, many)] + [tuple(reversed(values))]
            chance = random.Random(611)
            for dealing in list(dealings(values, 3)):
                right = is_right(history, dealing)
                for crowd in chance.sample(crowds, min(9, len(crowds))):
                    word = None
                    if not right:
                        word = "dealing"
                    elif not self.is_crowd(history, crowd):
                        word = "crowd"
                    elif len(crowd) != len({number for _, number in dealing}):
                        word = "sum"
                    told.add(word)
                    if word:
                        self.refuses(BadPaper, word, check_cell_dealing, history, (dealing, crowd))
                    else:
                        self.tells(len(crowd), check_cell_dealing, history, (dealing, crowd))
                        self.tells(len(crowd), fewest_cells, history)
        self.assertEqual(told, {None, "dealing", "crowd", "sum"})

    def test_refusals(self):
        for function, more in ((fewest_cells, ()), (cell_dealing, ()), (check_cell_dealing, (None,))):
            self.refuses_histories(function, *more)
            self.refuses_sorts(function, ("cell",), *more)
            for calls in ([("read", None, None)], [("read", None, 5)], [("read", None, 5), ("write", 5, None)],
                          [("write", 5, None), ("read", None, TOP)], [("write", 5, None), ("read", None, None)]):
                self.refuses(BadHistory, "rows", function, (("cell",), behind(calls)), *more)
        overlap = (("cell",), together([("read", None, 5), ("write", 5, None)]))
        self.tells(1, fewest_cells, overlap)
        for thing in ODD:
            word = "form" if type(thing) is not tuple or len(thing) != 2 else "dealing"
            self.refuses(BadPaper, word, check_cell_dealing, CELLS, thing)


if __name__ == "__main__":
    unittest.main()
