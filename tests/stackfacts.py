"""What the document says of stacks and heads, straight from its words, for the tests to compare with."""

from itertools import combinations

from oracle import ahead
from queuefacts import put_of, takes_of, values_put


def is_matched(history):
    for call in history[1]:
        if call[3] == "take" and call[5] is not None:
            put = put_of(history, call[5])
            if put is None or len(takes_of(history, call[5])) > 1 or ahead(call, put):
                return False
    return True


def span(history, value):
    """The span of a value of a matched history, None of a free one."""
    put, takes = put_of(history, value), takes_of(history, value)
    if not takes:
        return put[1], None
    return (put[1], takes[0][0]) if takes[0][0] > put[1] else None


def spanned(history):
    return [value for value in values_put(history) if span(history, value) is not None]


def beneath(history, value, far):
    takes, others = takes_of(history, value), takes_of(history, far)
    if ahead(put_of(history, far), put_of(history, value)):
        return False
    return takes == [] or (others != [] and not ahead(takes[0], others[0]))


def meet(one, two):
    """Whether two spans have a number in common."""
    return (one[1] is None or two[0] <= one[1]) and (two[1] is None or one[0] <= two[1])


def is_joined(history, pile):
    """However it is parted in two, some spans of the parts meet."""
    for many in range(1, len(pile)):
        for part in combinations(pile, many):
            rest = [value for value in pile if value not in part]
            if not any(meet(span(history, one), span(history, two)) for one in part for two in rest):
                return False
    return True


def bases(history, pile):
    return tuple(value for value in pile if all(beneath(history, value, far) for far in pile if far != value))


def bars(history, pile):
    return is_joined(history, pile) and bases(history, pile) == ()


def piles(history):
    values = spanned(history)
    return [pile for many in range(1, len(values) + 1) for pile in combinations(values, many)]


def is_covered(history, call, pile):
    """Whether each number from the BEGIN of a call to its END lies in some span."""
    moments = sorted({call[0], call[1]} | {end for value in pile for end in span(history, value)
                                           if end is not None and call[0] < end < call[1]})
    points = moments + [(one + two) / 2 for one, two in zip(moments, moments[1:])]
    return all(any(span(history, value)[0] <= point and (span(history, value)[1] is None
                                                         or point <= span(history, value)[1]) for value in pile)
               for point in points)


def blocks(history):
    """The joined piles that are in no greater joined one, that which begins first ahead."""
    joined = [pile for pile in piles(history) if is_joined(history, pile)]
    found = [pile for pile in joined if not any(set(pile) < set(other) for other in joined)]
    return tuple(sorted(found, key=lambda pile: min(span(history, value)[0] for value in pile)))


def stretch(history, block):
    ends = [span(history, value)[1] for value in block]
    return min(span(history, value)[0] for value in block), None if None in ends else max(ends)


def take_paper_holds(history, word, things):
    """Whether one of the papers on what is not matched holds."""
    calls = history[1]
    if not all(type(thing) is int and 0 <= thing < len(calls) for thing in things):
        return False
    first, last = calls[things[0]], calls[things[-1]]
    if first[3] != "take" or first[5] is None:
        return False
    if word == "unput":
        return put_of(history, first[5]) is None
    if word == "twice":
        return things[0] < things[1] and last[3] == "take" and last[5] == first[5]
    return put_of(history, first[5]) is not None and ahead(first, put_of(history, first[5]))


def named_by(history, paper):
    """The numbers of the calls of the values that a paper names, and those that it names itself."""
    calls = history[1]
    numbers = [thing for thing in paper[1:] if type(thing) is int]
    values = [value for thing in paper[1:] if type(thing) is tuple for value in thing]
    values += [calls[number][5] for number in numbers if calls[number][5] is not None]
    return numbers + [number for number, call in enumerate(calls) if number not in numbers
                      and (call[4] in values or call[5] in values)]


def with_empty(history, gap):
    """The history, its moments made twice as far apart and more, with an empty answer just behind a moment."""
    sorts, calls = history
    wide = tuple((3 * call[0], 3 * call[1]) + call[2:] for call in calls)
    return sorts, tuple(sorted(wide + ((3 * gap + 1, 3 * gap + 2, 0, "take", None, None),)))


def contents(history, points, now):
    """The values that are in at a number, by unlike numbers for all calls."""
    calls = history[1]
    came = [calls[number][4] for number, point in points.items() if calls[number][3] == "put" and point < now]
    went = [calls[number][5] for number, point in points.items() if calls[number][3] == "take" and point < now]
    return sorted(value for value in came if value not in went)
