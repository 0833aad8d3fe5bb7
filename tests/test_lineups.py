"""The lines that turns, rows and orders are made of."""

import random
import unittest
from itertools import permutations

from shortbars.lineups import all_lineups, first_lineup, how_many_lineups, wants_of


class TestLineups(unittest.TestCase):
    def test_nothing(self):
        self.assertEqual(wants_of(0, []), [])
        self.assertEqual(all_lineups([], []), [()])
        self.assertEqual(first_lineup([]), ())
        self.assertEqual(how_many_lineups([]), 1)

    def test_against_all_turns(self):
        chance = random.Random(71)
        for _ in range(200):
            many = chance.randrange(1, 7)
            pairs = [(one, two) for one in range(many) for two in range(many)
                     if one != two and chance.randrange(5) == 0]
            wants = wants_of(many, pairs)
            wanted = [row for row in permutations(range(many))
                      if all(row.index(one) < row.index(two) for one, two in pairs)]
            self.assertEqual(all_lineups(list(range(many)), wants), wanted)
            names = list("abcdefg")[:many]
            self.assertEqual(all_lineups(names, wants), [tuple(names[at] for at in row) for row in wanted])
            self.assertEqual(first_lineup(wants), wanted[0] if wanted else None)
            self.assertEqual(how_many_lineups(wants), len(wanted))

    def test_long_ones(self):
        self.assertEqual(all_lineups(list(range(8)), [0] * 8), list(permutations(range(8))))
        self.assertEqual(how_many_lineups([0] * 10), 3628800)


if __name__ == "__main__":
    unittest.main()
