"""What the document says of a watch, straight from its words, for the tests to compare with.

Calls are (BEGIN, END, THING, WORD, GIVEN, TOLD); END and TOLD of an open one are None.
"""

from itertools import combinations, product

import oracle
from samples import ONCE, WORDS, name_of

# What is tried, as much as there can be where all values are less than 4, and no more than 7 calls begin.
TOLDS = {"read": (None, 0, 1, 2, 3, 4), "take": (None, 0, 1, 2, 3, 4), "has": (0, 1), "count": tuple(range(9)),
         "draw": tuple(range(9))}


def is_good_by_trying(sorts, calls):
    """Some of the open ones, with whatever TOLD, ending behind all moments, beside all that have ended."""
    ended = [call for call in calls if call[1] is not None]
    opens = [call for call in calls if call[1] is None]
    for many in range(len(opens) + 1):
        for some in combinations(opens, many):
            for tolds in product(*[_tolds(calls, call) for call in some]):
                done = [call[:1] + (1000 + at,) + call[2:5] + (told,) for at, (call, told) in enumerate(zip(some, tolds))]
                if oracle.explanations((sorts, tuple(sorted(ended + done)))):
                    return True
    return False


def _tolds(calls, call):
    """All that an open call might tell: no more than is put, or than there are calls."""
    if call[3] in ("read", "take"):
        return [None] + [other[4] for other in calls if other[3] in ("write", "put") and other[2] == call[2]]
    if call[3] in ("count", "draw"):
        return range(len(calls) + 1)
    return TOLDS.get(call[3], (None,))


def is_good(sorts, calls):
    """The same by one search: rows of all that have ended, and of open ones that tell whatever they tell."""
    return _goes_on(sorts, calls, (), [oracle.first_state(sort) for sort in sorts])


def _goes_on(sorts, calls, row, states):
    left = [at for at in range(len(calls)) if at not in row]
    ended = [at for at in left if calls[at][1] is not None]
    if not ended:
        return True
    for at in left:
        if any(oracle.ahead(calls[other], calls[at]) for other in ended):
            continue
        _, end, thing, word, given, told = calls[at]
        behind = [list(state) for state in states]
        goes, answer = oracle.act(sorts[thing], behind[thing], word, given)
        if goes and (end is None or answer == told) and _goes_on(sorts, calls, row + (at,), behind):
            return True
    return False


class Leader:
    """Leads a watch by chance, and keeps by itself what has begun and ended."""

    def __init__(self, chance, watch, sorts, most, wrong=4):
        self.chance, self.watch, self.sorts, self.most, self.wrong = chance, watch, sorts, most, wrong
        self.calls = []
        self.moments = 0

    def opens(self):
        return [number for number, call in enumerate(self.calls) if call[1] is None]

    def step(self):
        """One begin or end; whether there was anything to do."""
        opens = self.opens()
        if len(self.calls) < self.most and (not opens or self.chance.randrange(5) < 3):
            if self.begins():
                return True
        if not opens:
            return False
        number = self.chance.choice(opens)
        self.ends(number, self.some_told(number))
        return True

    def begins(self):
        thing = self.chance.randrange(len(self.sorts))
        word = self.chance.choice(WORDS[name_of(self.sorts[thing])])
        given = self.chance.randrange(4) if word in ONCE or word == "has" else None
        if word in ONCE and (thing, word, given) in [call[2:5] for call in self.calls]:
            return False
        number = self.watch.begin(thing, word, given)
        assert number == len(self.calls)
        self.calls.append((self.moments, None, thing, word, given, None))
        self.moments += 1
        return True

    def some_told(self, number):
        """One that is right, most of the time, if there is one."""
        answers = self.watch.answers(number)
        if answers and self.chance.randrange(self.wrong):
            return self.chance.choice(answers)
        return self.chance.choice(TOLDS.get(self.calls[number][3], (None,)))

    def ends(self, number, told):
        self.watch.end(number, told)
        self.calls[number] = self.with_end(number, told)[number]
        self.moments += 1

    def with_end(self, number, told):
        call = self.calls[number]
        return self.calls[:number] + [call[:1] + (self.moments,) + call[2:5] + (told,)] + self.calls[number + 1:]

    def history(self):
        return self.sorts, tuple(call for call in self.calls if call[1] is not None)
