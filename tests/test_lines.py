"""Queues: sure spans, what is out of turn, covers: [15] to [17]."""

import random
import unittest

import oracle
import queuefacts
from checks import Checks
from samples import TOP, Integer, Row, behind, every, matched, mixed, ranked, together
from shortbars.errors import BadNumber, BadValue
from shortbars.lines import cover_of, out_of_turn, queue_span
from shortbars.linerows import all_rows

EMPTY = (("queue",), ())
WORDS = (("put", 0, None), ("put", 1, None), ("take", None, 0), ("take", None, 1), ("take", None, None))


def small():
    for many in (1, 2, 3):
        yield from every("queue", WORDS, many)
    yield from mixed(random.Random(81), ("queue",), 8, 4, 500)
    yield from matched(random.Random(83), "queue", 8, 500)


class TestSpans(Checks, unittest.TestCase):
    def test_some(self):
        calls = ((0, 5, 0, "put", 0, None), (1, 2, 0, "put", TOP, None), (3, 4, 0, "take", None, 0),
                 (6, 7, 0, "take", None, TOP), (8, 9, 0, "put", 5, None), (10, 11, 0, "take", None, 7))
        history = (("queue",), calls)
        self.tells(None, queue_span, history, 0)
        self.tells((2, 6), queue_span, history, TOP)
        self.tells((9, None), queue_span, history, 5)
        self.refuses(BadValue, 7, queue_span, history, 7)
        self.refuses(BadValue, 0, queue_span, EMPTY, 0)

    def test_of_several_takes_the_first_one_counts(self):
        calls = behind([("put", 5, None), ("take", None, 5), ("take", None, 5)])
        self.tells((1, 2), queue_span, (("queue",), calls), 5)
        calls = ((0, 3, 0, "put", 5, None), (1, 2, 0, "take", None, 5), (4, 5, 0, "take", None, 5))
        self.tells(None, queue_span, (("queue",), calls), 5)

    def test_against_the_words(self):
        for history in small():
            for value in queuefacts.values_put(history):
                self.tells(queuefacts.sure_span(history, value), queue_span, history, value)

    def test_the_value_is_in_throughout_its_sure_span(self):
        chance = random.Random(85)
        looked = 0
        for history in list(matched(chance, "queue", 6, 300)) + list(mixed(chance, ("queue",), 5, 3, 200)):
            for row in oracle.explanations(history):
                points = oracle.placed(chance, history, row)
                for value in queuefacts.values_put(history):
                    looked += self.look(history, points, value)
        self.assertGreater(looked, 100)

    def look(self, history, points, value):
        span = queue_span(history, value)
        if span is None:
            return 0
        put = points[history[1].index(queuefacts.put_of(history, value))]
        takes = queuefacts.takes_of(history, value)
        self.assertLess(put, span[0])
        self.assertEqual(span[1] is None, takes == [])
        if takes:
            self.assertGreater(points[history[1].index(takes[0])], span[1])
        return 1

    def test_what_is_refused(self):
        history = (("queue",), behind([("put", 1, None), ("put", 3, None), ("take", None, 2)]))
        self.refuses_histories(queue_span, True)
        self.refuses_sorts(queue_span, ("queue",), True)
        self.refuses_odd(BadValue, lambda thing: type(thing) is int and thing in (1, 3), queue_span, (history,))

    def test_what_is_told_is_plain(self):
        own = Row((Row(("queue",)), Row((Row((Integer(0), Integer(1), 0, "put", Integer(5), None)),
                                         Row((2, 3, 0, "take", None, None))))))
        self.tells((1, None), queue_span, own, Integer(5))
        self.tells((5,), cover_of, own, Integer(1))


class TestOutOfTurn(Checks, unittest.TestCase):
    def test_no_calls(self):
        self.tells((), out_of_turn, EMPTY)

    def test_some(self):
        puts = [("put", 7, None), ("put", 5, None), ("put", 6, None)]
        self.tells((), out_of_turn, (("queue",), behind(puts)))
        self.tells(((7, 5),), out_of_turn, (("queue",), behind(puts + [("take", None, 5), ("take", None, 7)])))
        self.tells(((5, 6), (7, 6)), out_of_turn, (("queue",), behind(puts + [("take", None, 6)])))
        self.tells(((5, 6), (7, 6)), out_of_turn,
                   (("queue",), behind(puts + [("take", None, 6), ("take", None, 7), ("take", None, 5)])))
        # Puts, or takes, that overlap have no turn.
        self.tells((), out_of_turn, (("queue",), together(puts, (10, 11, 0, "take", None, 6))))
        overlap = behind(puts[:2]) + ((10, 12, 0, "take", None, 5), (11, 13, 0, "take", None, 7))
        self.tells((), out_of_turn, (("queue",), overlap))

    def test_whatever_else_there_is(self):
        calls = behind([("take", None, 5), ("take", None, None), ("put", 7, None), ("put", 5, None), ("take", None, 9),
                        ("take", None, 5)])
        self.tells(((7, 5),), out_of_turn, (("queue",), calls))
        # The "take" with the least number counts: 7 is taken ahead of 5 by it.
        calls = behind([("put", 7, None), ("put", 5, None), ("take", None, 7), ("take", None, 5), ("take", None, 7)])
        self.tells((), out_of_turn, (("queue",), calls))
        calls = behind([("put", 7, None), ("put", 5, None), ("take", None, 5), ("take", None, 7), ("take", None, 5)])
        self.tells(((7, 5),), out_of_turn, (("queue",), calls))

    def test_against_the_words(self):
        found = 0
        for history in small():
            values = queuefacts.values_put(history)
            wanted = tuple((value, far) for value in values for far in values
                           if queuefacts.out_of_turn(history, value, far))
            self.tells(wanted, out_of_turn, history)
            found += len(wanted)
        self.assertGreater(found, 100)

    def test_it_leads_on(self):
        found = 0
        for history in list(matched(random.Random(82), "queue", 10, 500)) + list(self.shuffled(random.Random(84))):
            if queuefacts.has_rows(history):
                pairs = out_of_turn(history)
                for one, two in pairs:
                    for three, four in pairs:
                        if two == three:
                            self.assertIn((one, four), pairs)
                            found += 1
                self.assertEqual(pairs == (), all_rows(history) != ())
        self.assertGreater(found, 50)

    def shuffled(self, chance):
        """Values put nearly one behind the other, and then taken so in some other turn."""
        for _ in range(200):
            row = [("put", value, None) for value in chance.sample(range(5), 5)]
            row += [("take", None, value) for value in chance.sample(range(5), chance.randrange(6))]
            spans = [(10 * at - chance.randrange(9), 10 * at + 1 + chance.randrange(9)) for at in range(len(row))]
            yield ("queue",), tuple(sorted(moments + (0,) + call for moments, call in zip(ranked(spans), row)))

    def test_what_is_refused(self):
        self.refuses_histories(out_of_turn)
        self.refuses_sorts(out_of_turn, ("queue",))


class TestCovers(Checks, unittest.TestCase):
    def test_one(self):
        calls = behind([("put", 5, None), ("take", None, None), ("take", None, 5), ("take", None, None)])
        self.tells((5,), cover_of, (("queue",), calls), 1)
        self.tells(None, cover_of, (("queue",), calls), 3)
        calls = behind([("take", None, None), ("put", 5, None), ("take", None, None)])
        self.tells(None, cover_of, (("queue",), calls), 0)
        self.tells((5,), cover_of, (("queue",), calls), 2)

    def test_a_chain(self):
        calls = ((0, 1, 0, "put", 5, None), (2, 3, 0, "put", 6, None), (4, 20, 0, "take", None, None),
                 (5, 6, 0, "take", None, 5), (7, 8, 0, "put", 4, None), (9, 10, 0, "take", None, 6),
                 (21, 22, 0, "take", None, 4))
        self.tells((6, 4), cover_of, (("queue",), calls), 2)
        # Without the last "take", 4 is in for ever.
        self.tells((6, 4), cover_of, (("queue",), calls[:6]), 2)
        # A gap: 4 is put only when 6 may be out.
        gap = calls[:4] + ((7, 8, 0, "take", None, 6), (9, 10, 0, "put", 4, None))
        self.tells(None, cover_of, (("queue",), gap), 2)

    def test_edges_of_the_call(self):
        for begin, end, covered in ((2, 5, True), (1, 5, False), (2, 7, False)):
            moments = {"put": (0, 1 if begin == 2 else 2), "take": (6 if end == 5 else 5, 8)}
            calls = sorted([moments["put"] + (0, "put", 5, None), moments["take"] + (0, "take", None, 5),
                            (begin, end, 0, "take", None, None)])
            number = [at for at, call in enumerate(calls) if call[5] is None and call[3] == "take"][0]
            self.tells((5,) if covered else None, cover_of, (("queue",), tuple(calls)), number)

    def test_against_the_words(self):
        sizes = set()
        for history in small():
            for number, call in enumerate(history[1]):
                if call[3] == "take" and call[5] is None:
                    cover = cover_of(history, number)
                    many = queuefacts.fewest(history, number)
                    sizes.add(many)
                    self.assertEqual(None if cover is None else len(cover), many)
                    if cover is not None:
                        self.assertTrue(queuefacts.is_cover(history, number, cover))
        self.assertTrue({None, 1, 2} <= sizes)

    def test_long_ones(self):
        # Each value is taken only when the next one is in: four of them cover the call.
        calls = ((0, 1, 0, "put", 0, None), (2, 30, 0, "take", None, None), (3, 4, 0, "put", 1, None),
                 (5, 6, 0, "take", None, 0), (7, 8, 0, "put", 2, None), (9, 10, 0, "take", None, 1),
                 (11, 12, 0, "put", 3, None), (13, 14, 0, "take", None, 2), (31, 32, 0, "take", None, 3),
                 (33, 34, 0, "take", None, None))
        self.tells((0, 1, 2, 3), cover_of, (("queue",), calls), 1)
        self.tells(None, cover_of, (("queue",), calls), 9)

    def test_what_is_refused(self):
        calls = behind([("put", 1, None), ("take", None, None), ("take", None, 1), ("take", None, None)])
        self.refuses_histories(cover_of, None)
        self.refuses_sorts(cover_of, ("queue",), None)
        self.refuses_odd(BadNumber, lambda thing: type(thing) is int and thing in (1, 3), cover_of, ((("queue",), calls),))
        self.refuses(BadNumber, 0, cover_of, EMPTY, 0)


if __name__ == "__main__":
    unittest.main()
