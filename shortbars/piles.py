"""Stacks: which VALUES can lie beneath which ones, and the PILES that bar an EXPLANATION."""

from itertools import combinations

from shortbars.calls import leads
from shortbars.errors import BadPile, BadValue
from shortbars.kinds import are_values, is_value
from shortbars.putting import matched_calls, put_of, spans_of, takes_of


def stack_calls(history):
    """The CALLS of a matched HISTORY of one stack; BadHistory of others."""
    return matched_calls(history, ("stack",))


def can_lie_beneath(history, value, far):
    """Whether the VALUE value can lie beneath the VALUE far."""
    calls = stack_calls(history)
    spans = spans_of(calls)
    if not is_value(value) or value not in spans:
        raise BadValue(value)
    if not is_value(far) or far not in spans or far == value:
        raise BadValue(far)
    return _lies_beneath(calls, value, far)


def _lies_beneath(calls, value, far):
    if leads(calls[put_of(calls, far)], calls[put_of(calls, value)]):
        return False
    takes = takes_of(calls, value)
    others = takes_of(calls, far)
    if not takes:
        return True
    return len(others) > 0 and not leads(calls[takes[0]], calls[others[0]])


def is_joined(history, pile):
    """Whether a PILE is joined."""
    spans = spans_of(stack_calls(history))
    if not is_pile(spans, pile):
        raise BadPile(pile)
    return _are_joined({value: spans[value] for value in pile})


def does_bar(history, pile):
    """Whether a PILE is joined and bars."""
    calls = stack_calls(history)
    spans = spans_of(calls)
    if not is_pile(spans, pile):
        raise BadPile(pile)
    return is_barring(spans, beneath_pairs(calls, pile), pile)


def bases(history, pile):
    """The ascending tuple of all VALUES of a PILE that can lie beneath all others of it."""
    calls = stack_calls(history)
    if not is_pile(spans_of(calls), pile):
        raise BadPile(pile)
    return tuple([int(value) for value in bases_of(beneath_pairs(calls, pile), pile)])


def least_pile(history):
    """The first one of the fewest VALUES of all joined PILES that bar, None if none bars."""
    return fewest_barring(stack_calls(history))


def fewest_barring(calls):
    """What least_pile tells of a stack with these CALLS."""
    spans = spans_of(calls)
    values = list(spans)
    beneath = beneath_pairs(calls, values)
    for size in range(1, len(values) + 1):
        for pile in combinations(values, size):
            if is_barring(spans, beneath, pile):
                return pile
    return None


def beneath_pairs(calls, values):
    """The dict of all pairs of these VALUES of which the first one can lie beneath the second one."""
    return {(value, far): True for value in values for far in values
            if value != far and _lies_beneath(calls, value, far)}


def is_pile(spans, value):
    """Whether any value is a PILE of some of these SPANS."""
    return are_values(value) and len(value) > 0 and all(part in spans for part in value)


def is_barring(spans, beneath, pile):
    """Whether a PILE is joined and none of its VALUES can lie beneath all others of it."""
    return not bases_of(beneath, pile) and _are_joined({value: spans[value] for value in pile})


def bases_of(beneath, pile):
    """The list of the VALUES of a PILE that can lie beneath all others of it."""
    return [value for value in pile if all((value, far) in beneath for far in pile if far != value)]


def _are_joined(spans):
    """Whether no number between these SPANS is in none of them."""
    return len(joined_parts(spans)) == 1


def joined_parts(spans):
    """The list of the joined PILES of these SPANS, a dict by VALUES, that are in no greater one, by their FROM."""
    parts = []
    reach = -1
    for value in sorted(list(spans), key=lambda part: spans[part][0]):
        begin, end = spans[value]
        if reach is not None and reach < begin:
            parts.append([value])
            reach = end
            continue
        parts[-1].append(value)
        if reach is not None and (end is None or end > reach):
            reach = end
    return [tuple(sorted(part)) for part in parts]


def stretch_of(spans, pile):
    """The stretch of a joined PILE: from where the first one of its SPANS begins to where the last one ends."""
    ends = [spans[value][1] for value in pile]
    begin = min([spans[value][0] for value in pile])
    if None in ends:
        return begin, None
    return begin, max(ends)
