"""What the document says, written down once more in the plainest way, for the tests to compare with.

Nothing here uses the package. All turns of the calls are tried, so histories should be small.
"""

from itertools import permutations


def first_state(sort):
    if sort == "cell":
        return [None]
    if sort in ("counter", "tickets"):
        return [0]
    return []


def act(sort, state, word, given):
    """Changes the state, a list; returns (whether the call can go, what it tells)."""
    name = "room" if isinstance(sort, tuple) else sort
    if word == "write":
        state[0] = given
    elif word == "put":
        state.append(given)
    elif word in ("add", "draw"):
        state[0] += 1
        return True, (state[0] - 1 if word == "draw" else None)
    elif word in ("read", "count"):
        return True, state[0]
    elif word == "take":
        if not state:
            return True, None
        place = {"queue": 0, "stack": len(state) - 1, "heads": state.index(min(state))}[name]
        return True, state.pop(place)
    elif word == "has":
        return True, 1 if given in state else 0
    elif word in ("enter", "join"):
        if given in state or (word == "enter" and len(state) >= sort[1]):
            return False, None
        state.append(given)
    else:
        if given not in state:
            return False, None
        state.remove(given)
    return True, None


def shown(sort, state):
    """A state as states_by tells it."""
    if sort in ("cell", "counter", "tickets"):
        return state[0]
    if sort in ("queue", "stack"):
        return tuple(state)
    return tuple(sorted(state))


def ahead(call, other):
    return call[1] < other[0]


def orders(history):
    """All orders, ascending."""
    calls = history[1]
    return [row for row in permutations(range(len(calls)))
            if not any(ahead(calls[far], calls[near]) for at, near in enumerate(row) for far in row[at + 1:])]


def run(history, row):
    """What is told, one call behind the other, and the states behind it."""
    sorts, calls = history
    states = [first_state(sort) for sort in sorts]
    told = []
    for number in row:
        _, _, thing, word, given, _ = calls[number]
        told.append(act(sorts[thing], states[thing], word, given))
        if not told[-1][0]:
            break
    return tuple(told), tuple(shown(sort, state) for sort, state in zip(sorts, states))


def explanations(history):
    """All explanations, ascending."""
    found = []
    _grow(history, (), [first_state(sort) for sort in history[0]], found)
    return found


def _grow(history, row, states, found):
    sorts, calls = history
    left = [number for number in range(len(calls)) if number not in row]
    if not left:
        found.append(row)
    for number in left:
        if any(ahead(calls[other], calls[number]) for other in left):
            continue
        _, _, thing, word, given, told = calls[number]
        behind = [list(state) for state in states]
        if act(sorts[thing], behind[thing], word, given) == (True, told):
            _grow(history, row + (number,), behind, found)


def placed(chance, history, row):
    """Unlike numbers, by chance, one within each call, of which the row is the turn: a dict by the calls' numbers."""
    calls = history[1]
    points = {}
    now = -1
    for at, number in enumerate(row):
        # No later than the least END of those behind, no sooner than what is placed.
        begin = max(now, calls[number][0])
        end = min(calls[other][1] for other in row[at:])
        now = begin + (end - begin) * chance.randrange(1, 1000) / 1000
        points[number] = now
    return points
