"""Rooms: crowds, windows, papers and bars: [31], [32], [34]."""

import random
import unittest

import oracle
import roomfacts
from checks import Checks
from paperchecks import PaperChecks, is_explanation, is_number
from samples import ODD, TOP, Integer, Row, behind, every, mixed, together
from shortbars.calls import calls_of_lot
from shortbars.errors import BadMoment, BadPaper, BadValue
from shortbars.rooms import check_room, crowd_behind, free_values, room_bar, room_paper, window_of

ONE = ("room", 1)
ROOMS = tuple(("room", size) for size in range(1, 10))
WORDS = (("enter", 0, None), ("enter", 1, None), ("leave", 0, None), ("leave", 1, None))
# 5 is in from 1 to 10; 6 comes and goes between 4 and 7, and 7 is in from 9 on; of 8 nothing else is known.
SOME = ((0, 1, 0, "enter", 5, None), (2, 7, 0, "enter", 6, None), (4, 8, 0, "leave", 6, None),
        (5, 9, 0, "enter", 7, None), (6, 11, 0, "leave", 8, None), (10, 12, 0, "leave", 5, None))


def clash(chance, size, many):
    """A history in which several come early, some of whom go late, and some only pass."""
    moments = list(range(2 * many))
    spans = []
    while len(spans) < many:
        begin = moments.pop(0)
        spans.append((begin, moments.pop(min(len(moments) - 1, chance.randrange(1 + chance.randrange(many))))))
    row = [("enter", value, None) for value in range(many // 2)] + [("leave", value, None) for value in range(many // 2)]
    chance.shuffle(row)
    return (("room", size),), tuple((begin, end, 0) + call for (begin, end), call in zip(sorted(spans), row))


def small():
    for size in (1, 2):
        for many in (0, 1, 2, 3):
            yield from every(("room", size), WORDS, many)
    for size in (1, 2, 3):
        yield from list(every(("room", size), WORDS, 4))[::5]
        yield from mixed(random.Random(191), (("room", size),), 7, 6, 700)
    chance = random.Random(192)
    yield from (clash(chance, 1 + at % 3, 6) for at in range(600))


def tens():
    chance = random.Random(193)
    for size in (1, 2, 3, 9):
        yield from mixed(chance, (("room", size),), 10, 8, 400)
    yield from (clash(chance, 1 + at % 3, 10) for at in range(900))


class TestCrowds(Checks, unittest.TestCase):
    def test_some(self):
        history = ((ONE,), SOME)
        for moment, wanted in ((0, ()), (1, (5,)), (2, (5,)), (4, (5,)), (5, (5,)), (6, (5,)), (7, (5,)), (8, (5,)),
                               (9, (5, 7)), (10, (7,)), (11, (7,)), (12, (7,))):
            self.tells(wanted, crowd_behind, history, moment)
        self.tells((6,), free_values, history)
        self.tells((4, 5, 6), window_of, history, 6)

    def test_at_the_end_of_an_enter_and_the_begin_of_a_leave(self):
        history = ((ONE,), behind([("enter", 5, None), ("leave", 5, None)]))
        self.tells((), crowd_behind, history, 0)
        self.tells((5,), crowd_behind, history, 1)
        self.tells((), crowd_behind, history, 2)
        self.tells((), crowd_behind, history, 3)
        self.tells((), free_values, history)

    def test_the_size_makes_no_difference(self):
        for sort in ROOMS:
            history = ((sort,), behind([("enter", value, None) for value in range(10)]))
            self.tells(tuple(range(10)), crowd_behind, history, 19)
            self.tells(tuple(range(5)), crowd_behind, history, 9)

    def test_a_leave_ahead_of_its_enter(self):
        history = ((ONE,), behind([("leave", 5, None), ("enter", 5, None), ("enter", 6, None)]))
        self.tells((5,), free_values, history)
        self.tells((), window_of, history, 5)
        self.tells((6,), crowd_behind, history, 5)

    def test_all_at_once(self):
        history = ((ONE,), together([("enter", at, None) for at in range(5)] + [("leave", at, None) for at in range(5)]))
        self.tells(tuple(range(5)), free_values, history)
        for at in range(5):
            self.tells(tuple(range(5 + at, 10 + at)), window_of, history, at)
        for moment in range(20):
            self.tells((), crowd_behind, history, moment)
        self.tells((), free_values, ((ONE,), ()))

    def test_against_the_words(self):
        crowds, windows = set(), set()
        for history in small():
            self.tells(roomfacts.free(history), free_values, history)
            for moment in roomfacts.moments(history):
                self.tells(roomfacts.crowd(history, moment), crowd_behind, history, moment)
                crowds.add(len(roomfacts.crowd(history, moment)))
            for value in roomfacts.free(history):
                self.tells(roomfacts.window(history, value), window_of, history, value)
                windows.add(len(roomfacts.window(history, value)))
        self.assertTrue({0, 1, 2, 3} <= crowds and {0, 1, 2, 3} <= windows)

    def test_what_is_surely_in(self):
        chance = random.Random(194)
        seen = 0
        for history in list(small())[::4]:
            rows = oracle.explanations(history)
            for row in chance.sample(rows, min(4, len(rows))):
                points = oracle.placed(chance, history, row)
                for moment in roomfacts.moments(history):
                    inside = self.inside(history, points, moment)
                    self.assertTrue(set(crowd_behind(history, moment)) <= set(inside))
                    seen += len(crowd_behind(history, moment))
                for value in free_values(history):
                    self.passes(history, points, value)
        self.assertGreater(seen, 1000)

    def inside(self, history, points, moment):
        """Who is in just behind a moment."""
        at = {(call[3], call[4]): points[number] for number, call in enumerate(history[1])}
        return [value for value in roomfacts.values(history) if at.get(("enter", value), TOP) <= moment
                and at.get(("leave", value), TOP) > moment]

    def passes(self, history, points, value):
        """A free value is in at some time between a moment of its window and the next one."""
        at = {(call[3], call[4]): points[number] for number, call in enumerate(history[1])}
        moments = roomfacts.moments(history)
        window = window_of(history, value)
        following = [moments[moments.index(moment) + 1] for moment in window]
        self.assertTrue(any(at["enter", value] < end and at["leave", value] > begin
                            for begin, end in zip(window, following)))

    def test_what_is_told_is_plain(self):
        self.tells((4, 5, 6), window_of, ((Row(("room", Integer(1))),), SOME), Integer(6))
        self.tells((5,), crowd_behind, ((Row(("room", Integer(1))),), SOME), Integer(6))


class TestPapers(PaperChecks, unittest.TestCase):
    tell = staticmethod(room_paper)
    check = staticmethod(check_room)
    SORT = ONE
    SIZES = {"order": 2, "strange": 2, "early": 2, "crowd": 2, "covered": 2}
    ONE = (0, 1, 0, "enter", 1, None)
    # 5 is in from 1 to 6, 7 from 9 on; 6 comes and goes between 4 and 5, ahead of it or behind.
    FULL = ((0, 1, 0, "enter", 5, None), (2, 8, 0, "enter", 6, None), (4, 5, 0, "leave", 6, None),
            (6, 10, 0, "leave", 5, None), (7, 9, 0, "enter", 7, None))
    GOODS = (
        (together([("leave", 5, None), ("enter", 5, None)]), ("order", (1, 0)),
         [("order", (0, 1)), ("order", [1, 0]), ("order", (1,)), ("order", None), ("strange", 0), ("early", 0),
          ("crowd", 0), ("crowd", 3), ("covered", 5), ("covered", 0)]),
        (behind([("enter", 5, None), ("leave", 6, None), ("leave", 5, None)]), ("strange", 1),
         [("strange", 0), ("strange", 2), ("strange", 3), ("strange", -1), ("strange", True), ("strange", None),
          ("strange", 6), ("early", 1), ("crowd", 1), ("order", (0, 1, 2))]),
        (behind([("leave", 5, None), ("enter", 5, None), ("leave", 6, None)]), ("early", 0),
         [("early", 1), ("early", 2), ("early", 3), ("early", False), ("early", 5), ("covered", 5), ("strange", 0),
          ("crowd", 3)]),
        (behind([("enter", 5, None), ("enter", 6, None), ("leave", 5, None)]), ("crowd", 3),
         [("crowd", 0), ("crowd", 1), ("crowd", 2), ("crowd", 4), ("crowd", 5), ("crowd", 6), ("crowd", True),
          ("crowd", (5, 6)), ("crowd", None), ("covered", 5), ("early", 2), ("order", (0, 1, 2))]),
        # A number between two moments is no moment of the history.
        (((0, 10, 0, "enter", 5, None), (20, 30, 0, "enter", 6, None), (40, 50, 0, "leave", 5, None)), ("crowd", 30),
         [("crowd", 31), ("crowd", 35), ("crowd", 40), ("crowd", 29)]),
        (FULL, ("covered", 6), [("covered", 5), ("covered", 7), ("covered", 8), ("covered", None), ("covered", 2),
                                ("covered", (6,)), ("crowd", 4), ("strange", 2), ("early", 2), ("order", (0, 1, 2, 3, 4))]),
        (tuple(call[:4] + ({5: 9, 6: 1, 7: 8}[call[4]], None) for call in FULL), ("covered", 1),
         [("covered", True), ("covered", 9), ("covered", 6)]),
        (tuple(call[:4] + ({5: 9, 6: 0, 7: 8}[call[4]], None) for call in FULL), ("covered", 0), [("covered", False)]),
        # Where a leave is early it is not covered, though there is no moment with room in its window.
        (behind([("enter", 7, None), ("leave", 5, None), ("enter", 5, None)]), ("early", 1), [("covered", 5)]),
        # What is strange does not keep others from being so.
        (behind([("leave", 8, None), ("enter", 5, None), ("enter", 6, None)]), ("crowd", 5), [("crowd", 3)]),
        (behind([("leave", 8, None), ("enter", 5, None), ("enter", 6, None)]), ("strange", 0), [("strange", 1)]),
    )

    def holds(self, history, paper):
        calls = history[1]
        word, thing = paper
        if word == "order":
            return is_explanation(history, thing)
        if type(thing) is not int:
            return False
        if word == "crowd":
            return thing in roomfacts.moments(history) and len(roomfacts.crowd(history, thing)) > roomfacts.size(history)
        if word == "covered":
            if not roomfacts.is_free(history, thing) or roomfacts.is_early(history, roomfacts.call_of(history, "leave", thing)):
                return False
            crowds = [roomfacts.crowd(history, moment) for moment in roomfacts.window(history, thing)]
            return all(len(crowd) >= roomfacts.size(history) for crowd in crowds)
        if not is_number(thing, len(calls)) or calls[thing][3] != "leave":
            return False
        if word == "strange":
            return roomfacts.call_of(history, "enter", calls[thing][4]) is None
        return roomfacts.is_early(history, calls[thing])

    def small(self):
        return small()

    def tens(self):
        return tens()

    def few(self):
        yield from (((self.SORT,), calls) for calls, _, _ in self.GOODS)
        yield from list(every(self.SORT, WORDS, 3))[::2]
        yield from mixed(random.Random(195), (self.SORT,), 6, 4, 150)
        yield from mixed(random.Random(196), (("room", 2),), 7, 6, 150)
        chance = random.Random(197)
        yield from (clash(chance, 1 + at % 2, 6) for at in range(200))

    def papers(self, history):
        yield from (("order", row) for row in oracle.orders(history)[:200])
        most = max([2 * len(history[1])] + roomfacts.moments(history) + roomfacts.values(history))
        yield from ((word, thing) for word in self.SIZES if word != "order" for thing in range(-1, min(most, 60) + 1))

    def lot(self, history, paper):
        return roomfacts.bar(history, paper)

    def test_the_larger_room(self):
        calls = self.FULL
        for size in range(2, 10):
            history = ((("room", size),), calls)
            self.assertEqual(room_paper(history)[0], "order")
            self.refuses(BadPaper, "covered", check_room, history, ("covered", 6))

    def test_the_least_and_the_largest_room(self):
        for size in range(1, 10):
            calls = behind([("enter", value, None) for value in range(10)])
            paper = room_paper(((("room", size),), calls))
            self.tells(("crowd", 2 * size + 1), room_paper, ((("room", size),), calls))
            self.tells("crowd", check_room, ((("room", size),), calls), paper)
            self.tells("crowd", check_room, ((("room", size),), calls), ("crowd", 19))
            self.tells(("order", tuple(range(size))), room_paper, ((("room", size),), calls[:size]))


class TestBars(Checks, unittest.TestCase):
    def test_some(self):
        full = ((ONE,), TestPapers.FULL)
        self.tells((0, 1, 2, 3), room_bar, full, ("covered", 6))
        calls = behind([("enter", 5, None), ("leave", 8, None), ("leave", 6, None), ("enter", 6, None),
                        ("enter", 7, None), ("leave", 5, None)])
        history = ((ONE,), calls)
        self.tells((1,), room_bar, history, ("strange", 1))
        self.tells((2, 3), room_bar, history, ("early", 2))
        self.tells((0, 4, 5), room_bar, history, ("crowd", 9))

    def test_all_calls_of_who_was_in(self):
        # 5 and 7 are in at moments of the window of 6, one behind the other; 9 never is.
        calls = ((0, 1, 0, "enter", 5, None), (2, 20, 0, "enter", 6, None), (3, 7, 0, "enter", 7, None),
                 (4, 19, 0, "leave", 6, None), (8, 9, 0, "leave", 5, None), (21, 22, 0, "leave", 7, None),
                 (23, 24, 0, "enter", 9, None))
        history = ((ONE,), calls)
        self.tells((0, 1, 2, 3, 4, 5), room_bar, history, ("covered", 6))
        self.tells((0, 2, 4, 5), room_bar, history, ("crowd", 7))

    def test_alone_and_beside_others(self):
        seen = set()
        chance = random.Random(198)
        for history in TestPapers().few():
            for paper in TestPapers().papers(history):
                if paper[0] == "order" or not TestPapers().holds(history, paper):
                    continue
                wanted = roomfacts.bar(history, paper)
                self.tells(wanted, room_bar, history, paper)
                alone = calls_of_lot(history, wanted)
                self.assertEqual(oracle.explanations(alone), [])
                # Beside calls of other values that overlap all of them.
                shifted = tuple((call[0] + 2, call[1] + 2) + call[2:] for call in alone[1])
                late = 2 + max(call[1] for call in shifted)
                more = ((0, late, 0, "enter", 70, None), (1, late + 1, 0, "leave", 70, None))[:chance.randrange(1, 3)]
                if len(shifted) <= 5:
                    self.assertEqual(oracle.explanations((history[0], more + shifted)), [])
                seen.add((paper[0], len(wanted) < len(history[1])))
        self.assertEqual(len(seen), 8)

    def test_ten_calls(self):
        seen = set()
        for history in tens():
            paper = room_paper(history)
            if paper[0] != "order":
                wanted = roomfacts.bar(history, paper)
                self.tells(wanted, room_bar, history, paper)
                seen.add((paper[0], len(history[1]) > 7))
        self.assertTrue({(word, True) for word in ("strange", "early", "crowd", "covered")} <= seen)

    def test_what_is_told_is_plain(self):
        history = ((ONE,), behind([("leave", 5, None), ("leave", 6, None)]))
        self.tells((1,), room_bar, history, Row(("strange", Integer(1))))

    def test_refusals(self):
        self.refuses_histories(room_bar, None)
        self.refuses_sorts(room_bar, ROOMS, None)
        history = ((ONE,), ((0, 1, 0, "enter", 1, None),))
        for thing in ODD:
            right = type(thing) is tuple and len(thing) == 2 and type(thing[0]) is str and thing[0] == "order"
            self.refuses(BadPaper, "order" if right else "form", room_bar, history, thing)
            for word in ("strange", "early", "crowd", "covered", "order"):
                self.refuses(BadPaper, word, room_bar, history, (word, thing))
        # An "order" that holds has no bar, one that does not hold neither.
        self.refuses(BadPaper, "order", room_bar, history, ("order", (0,)))
        self.refuses(BadPaper, "order", room_bar, ((ONE,), ()), ("order", ()))
        for paper in (("strange",), ("strange", 0, 0), ("gap", 0), ["strange", 0]):
            self.refuses(BadPaper, "form", room_bar, history, paper)


class TestRefusals(Checks, unittest.TestCase):
    def test_histories(self):
        for function, more in ((crowd_behind, (None,)), (free_values, ()), (window_of, (None,))):
            self.refuses_histories(function, *more)
            self.refuses_sorts(function, ROOMS, *more)

    def test_moments(self):
        history = ((ONE,), ((1, 2, 0, "enter", 1, None), (9, 11, 0, "leave", 1, None)))
        self.refuses_odd(BadMoment, lambda thing: type(thing) is int and thing in (1, 2, 9, 11), crowd_behind, (history,))
        self.refuses_odd(BadMoment, lambda thing: False, crowd_behind, (((ONE,), ()),))

    def test_values(self):
        # 1 and 3 are free, the leave of 3 being early; 0 is not, 2 has one call alone.
        calls = ((0, 1, 0, "enter", 0, None), (2, 3, 0, "leave", 0, None), (4, 7, 0, "enter", 1, None),
                 (5, 6, 0, "leave", 1, None), (8, 9, 0, "enter", 2, None), (10, 11, 0, "leave", 3, None),
                 (12, 13, 0, "enter", 3, None), (14, 15, 0, "leave", 9, None))
        self.refuses_odd(BadValue, lambda thing: type(thing) is int and thing in (1, 3), window_of, (((ONE,), calls),))


if __name__ == "__main__":
    unittest.main()
