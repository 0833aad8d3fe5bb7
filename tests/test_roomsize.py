"""How large a room has to be: [33]."""

import random
import unittest

import oracle
import roomfacts
from checks import Checks
from samples import Integer, behind, every, mixed, together
from shortbars.errors import BadNumber
from shortbars.rooms import room_paper
from shortbars.roomsize import least_room, sized
from test_rooms import ONE, ROOMS, SOME, WORDS, clash, tens


def small():
    for many in (0, 1, 2, 3, 4):
        yield from every(("room", 2), WORDS, many)
    for size in (1, 3, 9):
        yield from mixed(random.Random(201), (("room", size),), 6, 5, 300)
    chance = random.Random(202)
    yield from (clash(chance, 1 + at % 3, 6) for at in range(400))


class TestLeastRoom(Checks, unittest.TestCase):
    def test_some(self):
        self.tells(1, least_room, ((ONE,), ()))
        self.tells(1, least_room, ((("room", 9),), ()))
        self.tells(None, least_room, ((ONE,), SOME))
        self.tells(2, least_room, ((ONE,), tuple(call for call in SOME if call[4] != 8)))
        self.tells(None, least_room, ((ONE,), behind([("leave", 5, None)])))
        self.tells(None, least_room, ((("room", 9),), behind([("leave", 5, None), ("enter", 5, None)])))
        self.tells(1, least_room, ((ONE,), together([("leave", 5, None), ("enter", 5, None)])))

    def test_who_comes_and_goes_wants_room_for_one_more(self):
        calls = ((0, 1, 0, "enter", 5, None), (2, 8, 0, "enter", 6, None), (4, 5, 0, "leave", 6, None),
                 (6, 10, 0, "leave", 5, None), (7, 9, 0, "enter", 7, None))
        self.tells(2, least_room, ((ONE,), calls))
        # Behind the begin of the leave of 5 there is room.
        calls = ((0, 1, 0, "enter", 5, None), (2, 8, 0, "enter", 6, None), (4, 7, 0, "leave", 6, None),
                 (6, 10, 0, "leave", 5, None))
        self.tells(1, least_room, ((ONE,), calls))

    def test_beyond_the_largest_room(self):
        calls = behind([("enter", value, None) for value in range(10)])
        for sort in ROOMS:
            self.tells(10, least_room, ((sort,), calls))
            self.tells(9, least_room, ((sort,), calls[:9]))
            self.tells(10, least_room, ((sort,), together([("enter", value, None) for value in range(10)])))
        # Nine are in while one more comes and goes, all the time.
        calls = behind([("enter", value, None) for value in range(8)]) + (
            (20, 23, 0, "enter", 8, None), (21, 22, 0, "leave", 8, None))
        self.tells(9, least_room, ((ONE,), calls))

    def test_each_size_tried(self):
        told = set()
        for history in small():
            # The sizes beyond 9 are none of a sort, but may be tried as well.
            good = [size for size in range(1, 12) if oracle.explanations(roomfacts.as_room(history, size))]
            wanted = good[0] if good else None
            self.tells(wanted, least_room, history)
            self.assertEqual(good, list(range(wanted, 12)) if good else [])
            told.add(wanted)
        self.assertTrue({None, 1, 2, 3} <= told)

    def test_ten_calls(self):
        told = set()
        for history in tens():
            least = least_room(history)
            told.add(least)
            for size in range(1, 10):
                wanted = least is not None and size >= least
                self.assertEqual(room_paper(sized(history, size))[0] == "order", wanted)
        self.assertTrue({None, 1, 2, 3, 4} <= told)

    def test_refusals(self):
        self.refuses_histories(least_room)
        self.refuses_sorts(least_room, ROOMS)


class TestSized(Checks, unittest.TestCase):
    def test_some(self):
        for sort in ROOMS:
            for size in range(1, 10):
                self.tells(((("room", size),), SOME), sized, ((sort,), SOME), size)
                self.tells(((("room", size),), ()), sized, ((sort,), ()), size)
        self.tells(((("room", 7),), SOME), sized, ((ONE,), SOME), Integer(7))

    def test_refusals(self):
        self.refuses_histories(sized, None)
        self.refuses_sorts(sized, ROOMS, None)
        self.refuses_odd(BadNumber, lambda thing: type(thing) is int and 1 <= thing <= 9, sized, (((ONE,), SOME),))
        for number in (0, 10, -1, True, None, "1", ("room", 1), 1000000):
            self.refuses(BadNumber, number, sized, ((ONE,), SOME), number)


if __name__ == "__main__":
    unittest.main()
