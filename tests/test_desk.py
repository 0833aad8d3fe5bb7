"""A desk that leads a watch: [68]."""

import inspect
import random
import unittest

from checks import alike
from samples import ODD, Text, Odd, Same
from shortbars.desk import Desk
from shortbars.watch import Watch
from test_texts import BAD, TextChecks
from test_watch import SORTS, shown
from textfacts import sort_text
from watchfacts import TOLDS, Leader


def entry(thing):
    return "-" if thing is None else str(thing)


def listed(things):
    return " ".join(entry(thing) for thing in things) if things else "none"


class TestDesk(TextChecks, unittest.TestCase):
    def says(self, desk, *lines):
        """Pairs of a line and its answer, one behind the other."""
        for line, wanted in lines:
            self.tells(wanted, desk.say, line)

    def test_some(self):
        desk = Desk("queue room 2")
        self.assertTrue(alike(shown(desk.watch), shown(Watch(("queue", ("room", 2))))))
        self.says(desk, ("open", "none"), ("good", "yes"), ("bad", "none"), ("history", "0"), ("undo", "nothing"),
                  ("begin 0 put 5", "0"), ("begin 0 take -", "1"), ("begin 1 enter 5", "2"), ("open", "0 1 2"), ("answers 0", "-"),
                  ("answers 1", "- 5"), ("would 1 5", "yes"), ("would 1 6", "no"), ("end 1 5", "good"), ("open", "0 2"),
                  ("history", "1"), ("good", "yes"), ("bad", "none"), ("begin 0 take -", "3"), ("answers 3", "-"), ("end 3 5", "bad"),
                  ("good", "no"), ("bad", "5"), ("answers 0", "none"), ("would 0 -", "no"), ("end 0 -", "bad"), ("history", "3"),
                  ("undo", "done"), ("undo", "done"), ("good", "yes"), ("bad", "none"), ("open", "0 2 3"), ("history", "1"),
                  ("end 3 -", "good"), ("end 2 -", "good"), ("open", "0"), ("history", "3"))
        self.assertTrue(alike(desk.watch.history, (("queue", ("room", 2)), ((1, 3, 0, "take", None, 5), (2, 6, 1, "enter", 5, None),
                                                                           (4, 5, 0, "take", None, None)))))

    def test_answers_of_each_sort(self):
        desk = Desk("set counter tickets cell")
        self.says(desk, ("begin 0 has 5", "0"), ("answers 0", "0"), ("begin 0 join 5", "1"), ("answers 0", "0 1"),
                  ("begin 1 add -", "2"), ("begin 1 count -", "3"), ("answers 3", "0 1"), ("begin 2 draw -", "4"),
                  ("begin 2 draw -", "5"), ("answers 5", "0 1"), ("begin 3 read -", "6"), ("begin 3 write 1000000", "7"),
                  ("answers 6", "- 1000000"), ("answers 2", "-"), ("open", "0 1 2 3 4 5 6 7"), ("begin 0 drop 9", "8"),
                  ("answers 8", "none"), ("begin 1 count -", "9"), ("begin 1 count -", "no"), ("history", "0"), ("end 8 -", "bad"),
                  ("bad", "10"), ("answers 0", "none"), ("undo", "done"), ("answers 8", "none"), ("good", "yes"))

    def test_the_very_watch(self):
        desk = Desk("stack")
        watch = desk.watch
        self.assertIsInstance(watch, Watch)
        self.tells("0", desk.say, "begin 0 put 7")
        self.assertEqual((watch.open_calls, len(watch)), ((0,), 1))
        watch.begin(0, "take", None)
        self.says(desk, ("open", "0 1"), ("answers 1", "- 7"))
        self.assertIs(desk.watch, watch)
        self.assertIsNot(Desk("stack").watch, watch)
        with self.assertRaises(AttributeError):
            desk.watch = Watch(("stack",))

    def test_each_line_beside_a_watch(self):
        told = {}
        for at in range(120):
            chance = random.Random(1700 + at)
            sorts = SORTS[at % len(SORTS)]
            desk = Desk(" ".join(sort_text(sort) for sort in sorts))
            leader = Leader(chance, Watch(sorts), sorts, 7, 3)
            watch = leader.watch
            going = True
            while going:
                begun, ended = len(leader.calls), leader.opens()
                going = leader.step()
                if len(leader.calls) > begun:
                    _, _, thing, word, given, _ = leader.calls[-1]
                    self.says(desk, (f"begin {thing} {word} {entry(given)}", str(begun)))
                elif going:
                    number = (set(ended) - set(leader.opens())).pop()
                    told_it = leader.calls[number][5]
                    self.says(desk, (f"end {number} {entry(told_it)}", "good" if watch.is_good else "bad"))
                self.beside(chance, desk, watch, leader)
                if going and chance.randrange(9) == 0:
                    self.says(desk, ("undo", "done"))
                    watch.undo()
                    break
            self.assertTrue(alike(shown(desk.watch), shown(watch)))
            told[watch.is_good] = told.get(watch.is_good, 0) + 1
        self.assertGreater(min(told.values()), 20)

    def beside(self, chance, desk, watch, leader):
        """What changes nothing is answered as the watch tells it."""
        self.says(desk, ("open", listed(watch.open_calls)), ("good", "yes" if watch.is_good else "no"),
                  ("bad", "none" if watch.is_good else str(watch.went_bad)), ("history", str(len(watch.history[1]))))
        for number in watch.open_calls:
            self.says(desk, (f"answers {number}", listed(watch.answers(number))))
            told = chance.choice(TOLDS.get(leader.calls[number][3], (None,)))
            self.says(desk, (f"would {number} {entry(told)}", "yes" if watch.would(number, told) else "no"))
        self.assertTrue(alike(shown(desk.watch), shown(watch)))

    def test_what_is_answered_with_no(self):
        desk = Desk("queue set")
        self.says(desk, ("begin 0 put 5", "0"), ("end 0 -", "good"), ("begin 0 take -", "1"), ("begin 1 has 3", "2"))
        before = shown(desk.watch)
        lines = [
            "", " ", "x", "Good", "good ", " good", "good 1", "GOOD", "open 1", "open ", "bad -", "history 0", "undo 1", "undo ", "undo -",
            "begin", "begin 0", "begin 0 put", "begin 0 put 6 -", "begin 0 put 6 ", "begin  0 put 6", "begin 0 put", "begin - put 6",
            "begin x put 6", "begin 00 put 6", "begin 2 put 6", "begin 0 join 6", "begin 0 Put 6", "begin 0  6", "begin 0 - 6",
            "begin 0 put -", "begin 0 put 06", "begin 0 put -6", "begin 0 put +6", "begin 0 put 1000001", "begin 0 put " + "1" * 31,
            "begin 0 put " + "1" * 32, "begin 0 put 5", "begin 0 take 5", "begin 0 put x", "begin 1 has -", "begin 0 put 6\n",
            "begin 0 put 6\nopen", "begin\n0 put 6", "begin 0 put 6.0", "begin 0 put \u0666", "begin 0 put 6_0", "begin 0 take None",
            "end", "end 1", "end 1 5 ", "end 1  5", "end 1 05", "end 1 x", "end - 5", "end 0 -", "end 3 -", "end 01 5", "end 1 1000001",
            "end 2 -", "end 2 2", "end 2 01", "end " + "1" * 32 + " -", "end " + "1" * 31 + " -", "end 1 " + "1" * 31,
            "would", "would 1", "would 1 x", "would 0 -", "would 3 -", "would 2 -", "would 2 2", "would 1 5 5", "would - -", "would 1 1000001",
            "answers", "answers -", "answers 0", "answers 3", "answers x", "answers 1 2", "answers 01", "answers " + "1" * 31, "answers ",
            "good\n", "\ngood", "open\n", "undo\n", "good\ngood", "answers 1\n", "begin 0 put 6\t", "explained", "count 1", "none", "no"]
        for line in lines:
            self.tells("no", desk.say, line)
            self.assertTrue(alike(shown(desk.watch), before), line)
        for thing in ODD + (b"good", ["good"], ("good",), Odd(), Same(), {"good": 1}):
            if not isinstance(thing, str) or thing not in ("open", "good"):
                self.tells("no", desk.say, thing)
        self.assertTrue(alike(shown(desk.watch), before))
        self.says(desk, (Text("good"), "yes"), (Text("begin 0 put 6"), "3"), (Text("end 1 5"), "good"))

    def test_an_eleventh_call_and_nothing_left(self):
        desk = Desk("cell")
        for at in range(10):
            self.says(desk, (f"begin 0 write {at}", str(at)))
        self.says(desk, ("begin 0 write 10", "no"), ("begin 0 read -", "no"), ("open", "0 1 2 3 4 5 6 7 8 9"))
        for _ in range(10):
            self.says(desk, ("undo", "done"))
        self.says(desk, ("undo", "nothing"), ("undo", "nothing"), ("open", "none"))
        self.assertEqual(len(desk.watch), 0)

    def test_texts(self):
        for sorts in SORTS:
            for text in (" ".join(sort_text(sort) for sort in sorts), Text(" ".join(sort_text(sort) for sort in sorts))):
                self.assertTrue(alike(Desk(text).watch.history, (sorts, ())))
        for text, place in (
                ("", (0, 0)), ("x", (0, 0)), (" cell", (0, 0)), ("cell ", (0, 1)), ("cell  set", (0, 1)), ("room", (0, 1)), ("room 0", (0, 1)),
                ("room 10", (0, 1)), ("room 02", (0, 1)), ("cell 1", (0, 1)), ("cell cell cell cell cell", (0, 4)), ("room 1 room", (0, 3)),
                ("cell\n", (1, 0)), ("cell\nset", (1, 0)), ("x\n", (0, 0)), ("cell\n\n", (1, 0)), ("Cell", (0, 0)), ("\ncell", (0, 0)),
                ("room 1 room 2 room 3 room 4 room 5", (0, 8)), ("cell\n0 1 0 write 5 -", (1, 0)), ("-", (0, 0)), ("1", (0, 0))):
            self.refuses_text(place, Desk, text)
        for thing in ODD + (["cell"], ("cell",), b"cell"):
            if not isinstance(thing, str):
                self.refuses_text(BAD, Desk, thing)

    def test_the_interface(self):
        self.assertEqual(list(inspect.signature(Desk).parameters), ["text"])
        self.assertEqual(list(inspect.signature(vars(Desk)["say"]).parameters), ["self", "line"])
        self.assertIsInstance(vars(Desk)["watch"], property)
        self.assertEqual((Desk.__module__, Desk.__name__), ("shortbars.desk", "Desk"))


if __name__ == "__main__":
    unittest.main()
