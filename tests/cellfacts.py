"""What the document says of cells, straight from its words, for the tests to compare with."""

from itertools import permutations

from oracle import ahead


def mark_of(call):
    return call[4] if call[3] == "write" else call[5]


def kins(history):
    """The marks and the numbers of their calls."""
    calls = history[1]
    marks = sorted({mark_of(call) for call in calls} - {None})
    if any(mark_of(call) is None for call in calls):
        marks = [None] + marks
    return {mark: tuple(number for number, call in enumerate(calls) if mark_of(call) == mark) for mark in marks}


def forced(history, mark, other):
    calls = history[1]
    kin = kins(history)
    return mark is None or any(ahead(calls[one], calls[two]) for one in kin[mark] for two in kin[other])


def odds(history):
    marks = list(kins(history))
    return tuple((mark, other) for at, mark in enumerate(marks) for other in marks[at + 1:]
                 if forced(history, mark, other) and forced(history, other, mark))


def turns(history):
    """All turns, in the turn of permutations, which is that of the places in marks."""
    marks = tuple(kins(history))
    return tuple(turn for turn in permutations(marks)
                 if not any(forced(history, far, near) for at, near in enumerate(turn) for far in turn[at + 1:]))


def turn_of(history, row):
    """The marks in the turn in which they come first in an explanation."""
    marks = []
    for number in row:
        if mark_of(history[1][number]) not in marks:
            marks.append(mark_of(history[1][number]))
    return tuple(marks)
