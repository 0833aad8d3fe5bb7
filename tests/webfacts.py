"""What the document says of standings, straight from its words: by going through all explanations."""

import random

import oracle
from samples import grown, mixed, spoiled

MIXES = (("cell", "queue"), ("stack", "heads", "set"), (("room", 1), "counter"), ("tickets", "queue", "set", "cell"))
SORTS = ("cell", "queue", "stack", "heads", "counter", "tickets", "set", ("room", 1), ("room", 2), ("room", 9))


def small(seed, times, most=6):
    """Histories of each sort and of several things, explained ones and others."""
    for at, sorts in enumerate([(sort,) for sort in SORTS] + list(MIXES)):
        chance = random.Random(seed + at)
        yield sorts, ()
        yield from mixed(chance, sorts, most, 3, times)
        for _ in range(times):
            history = grown(chance, sorts, most, 3, chance.choice((9, 25)))
            yield history if chance.randrange(3) else spoiled(chance, history)


def live(history):
    """A dict of all live standings, each with the set of the ways in which it goes on."""
    found = {}
    for row in oracle.explanations(history):
        for many in range(len(row) + 1):
            standing = tuple(sorted(row[:many])), oracle.run(history, row[:many])[1]
            found.setdefault(standing, set()).add(row[many:])
    return found


def dead(history):
    """The standings that are none of these, but that some row of calls that tell what was told comes to."""
    sorts, calls = history
    rows = [()]
    seen = set()
    while rows:
        row = rows.pop()
        told, states = oracle.run(history, row)
        if any(pair != (True, calls[at][5]) for pair, at in zip(told, row)) or len(told) < len(row):
            continue
        seen.add((tuple(sorted(row)), states))
        left = [number for number in range(len(calls)) if number not in row]
        rows += [row + (number,) for number in left
                 if not any(oracle.ahead(calls[other], calls[number]) for other in left)]
    return seen - set(live(history))
