"""Lines of things numbered from 0, each of which may want some others to stand ahead of it.

What things want is told by a list of integers: the bit K of the one with the number N is set
if N wants K to stand ahead of it. Those who stand already are told by one such integer.
"""

FEW = 120


def wants_of(many, pairs):
    """What so many things want, by pairs of numbers, the first one of which has to stand ahead."""
    wants = [0] * many
    for first, second in pairs:
        wants[second] |= 1 << first
    return wants


def next_ones(wants, done):
    """The list of all numbers, ascending, that can stand next behind those that stand already."""
    return [number for number in range(len(wants)) if is_ready(wants, done, number)]


def is_ready(wants, done, number):
    """Whether this number can stand next."""
    return (done >> number) & 1 == 0 and (wants[number] & done) == wants[number]


def all_lineups(things, wants):
    """The list of all lines of these things, as tuples, those with the nearer things first."""
    return _rests(things, wants, 0, {})


def _rests(things, wants, done, known):
    if done in known:
        return known[done]
    if done == (1 << len(things)) - 1:
        return [()]
    rests = [(things[number],) + rest
             for number in next_ones(wants, done) for rest in _rests(things, wants, done | (1 << number), known)]
    # Of ten things there may be millions: the long lists are not worth their room.
    if len(rests) <= FEW:
        known[done] = rests
    return rests


def first_lineup(wants):
    """The tuple of numbers that always takes the least one that can stand next, None if none can."""
    done = 0
    line = []
    for _ in range(len(wants)):
        ready = next_ones(wants, done)
        if not ready:
            return None
        line.append(ready[0])
        done |= 1 << ready[0]
    return tuple(line)


def how_many_lineups(wants):
    """How many lines there are."""
    ways = {0: 1}
    for done in range(1 << len(wants)):
        for number in next_ones(wants, done):
            behind = done | (1 << number)
            ways[behind] = ways.get(behind, 0) + ways.get(done, 0)
    return ways[(1 << len(wants)) - 1]
