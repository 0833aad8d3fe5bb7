"""Papers on tickets: [39]."""

import random
import unittest
from itertools import permutations, product

import oracle
from checks import Checks
from oracle import ahead
from paperchecks import PaperChecks, is_explanation, is_number
from samples import TOP, behind, every, mixed, together
from shortbars.tickets import check_tickets, ticket_paper

WORDS = tuple(("draw", None, told) for told in range(4))


def drawn(chance, many, width):
    """Draws in turn, each of them then made longer, some of which tell what another one should."""
    told = list(range(many))
    if chance.randrange(2):
        one, two = chance.randrange(many), chance.randrange(many)
        told[one], told[two] = chance.choice(((told[two], told[one]), (told[two], told[two]), (many + one, told[two])))
    points = sorted([(10 * at - chance.randrange(width), 0, at) for at in range(many)]
                    + [(10 * at + 1 + chance.randrange(width), 1, at) for at in range(many)])
    places = {(kind, at): place for place, (_, kind, at) in enumerate(points)}
    return ("tickets",), tuple(sorted((places[(0, at)], places[(1, at)], 0, "draw", None, told[at]) for at in range(many)))


def small():
    for many in (0, 1, 2, 3):
        yield from every("tickets", WORDS, many)
    yield from list(every("tickets", WORDS, 4))[::13]
    yield from mixed(random.Random(231), ("tickets",), 7, 5, 500)
    chance = random.Random(232)
    yield from (drawn(chance, 6, chance.choice((5, 15, 40))) for _ in range(600))


def tens():
    yield from mixed(random.Random(233), ("tickets",), 10, 8, 300)
    chance = random.Random(234)
    yield from (drawn(chance, 10, chance.choice((5, 15, 40))) for _ in range(600))


class TestPapers(PaperChecks, unittest.TestCase):
    tell = staticmethod(ticket_paper)
    check = staticmethod(check_tickets)
    SORT = "tickets"
    SIZES = {"order": 2, "gap": 2, "twice": 3, "back": 3}
    ONE = (0, 1, 0, "draw", None, 0)
    GOODS = (
        (together([("draw", None, 2), ("draw", None, 0), ("draw", None, 1)]), ("order", (1, 2, 0)),
         [("order", (0, 1, 2)), ("order", [1, 2, 0]), ("order", (1, 2)), ("order", None), ("gap", 0), ("gap", 2), ("gap", 3),
          ("twice", 0, 1), ("back", 0, 1), ("back", 0, 2)]),
        (behind([("draw", None, 1), ("draw", None, 4), ("draw", None, 1)]), ("gap", 0),
         [("gap", 1), ("gap", 3), ("gap", 4), ("gap", -1), ("gap", False), ("gap", None), ("gap", (0,)), ("back", 0, 1),
          ("twice", 1, 2)]),
        (behind([("draw", None, 1), ("draw", None, 4), ("draw", None, 1)]), ("gap", 2), []),
        (behind([("draw", None, 1), ("draw", None, 4), ("draw", None, 1)]), ("twice", 0, 2),
         [("twice", 2, 0), ("twice", 0, 0), ("twice", 0, 1), ("twice", 0, 3), ("twice", False, 2), ("twice", 0, None),
          ("back", 0, 2), ("twice", 1, 1)]),
        (behind([("draw", None, 1), ("draw", None, 4), ("draw", None, 1)]), ("back", 1, 2),
         [("back", 2, 1), ("back", 1, 1), ("back", 1, 3), ("back", True, 2), ("back", 1, None), ("back", 0, 2)]),
        (((0, 3, 0, "draw", None, 2), (1, 6, 0, "draw", None, 1), (4, 5, 0, "draw", None, 0)), ("back", 0, 2),
         [("back", 0, 1), ("back", 1, 2), ("gap", 0), ("twice", 0, 2), ("order", (2, 1, 0)), ("order", (0, 1, 2))]),
        (behind([("draw", None, TOP)]), ("gap", 0), [("gap", 1), ("gap", TOP)]),
        (together([("draw", None, 5)] * 10), ("twice", 0, 9), [("twice", 9, 0), ("gap", 5)]),
        (together([("draw", None, 5)] * 10), ("gap", 9), [("gap", 10)]),
    )

    def holds(self, history, paper):
        calls = history[1]
        word, things = paper[0], paper[1:]
        if word == "order":
            return is_explanation(history, things[0])
        if word == "gap":
            return is_number(things[0], len(calls)) and all(call[5] != things[0] for call in calls)
        if not all(is_number(thing, len(calls)) for thing in things):
            return False
        first, second = calls[things[0]], calls[things[1]]
        if word == "twice":
            return things[0] < things[1] and first[5] == second[5]
        return ahead(first, second) and first[5] > second[5]

    def small(self):
        return small()

    def tens(self):
        return tens()

    def few(self):
        yield from (((self.SORT,), calls) for calls, _, _ in self.GOODS if len(calls) < 8)
        yield from list(every("tickets", WORDS, 3))[::3]
        chance = random.Random(235)
        yield from (drawn(chance, 6, chance.choice((5, 15, 40))) for _ in range(250))

    def papers(self, history):
        numbers = range(len(history[1]) + 1)
        yield from (("order", row) for row in oracle.orders(history)[:200])
        yield from (("gap", value) for value in numbers)
        yield from ((word, one, two) for word in ("twice", "back") for one, two in product(numbers, repeat=2))

    def lot(self, history, paper):
        return range(len(history[1])) if paper[0] == "gap" else paper[1:]


class TestTheFact(Checks, unittest.TestCase):
    def test_just_one_explanation(self):
        told = set()
        for history in small():
            calls = history[1]
            wanted = sorted(call[5] for call in calls) == list(range(len(calls)))
            wanted = wanted and not any(ahead(one, two) and one[5] > two[5] for one in calls for two in calls)
            rows = oracle.explanations(history)
            self.assertEqual(len(rows), int(wanted))
            if wanted:
                self.tells(("order", rows[0]), ticket_paper, history)
            told.add(wanted)
        self.assertEqual(told, {True, False})

    def test_all_turns_of_what_overlaps(self):
        for told in permutations(range(4)):
            history = (("tickets",), together([("draw", None, number) for number in told]))
            self.tells(("order", tuple(told.index(number) for number in range(4))), ticket_paper, history)

    def test_ten_calls(self):
        history = (("tickets",), together([("draw", None, 9 - at) for at in range(10)]))
        self.tells(("order", tuple(range(9, -1, -1))), ticket_paper, history)
        history = (("tickets",), behind([("draw", None, at) for at in range(10)]))
        self.tells(("order", tuple(range(10))), ticket_paper, history)


if __name__ == "__main__":
    unittest.main()
