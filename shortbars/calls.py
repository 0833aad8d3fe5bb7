"""HISTORIES, their CALLS, which of these is ahead of which, and what can be taken out of them."""

from shortbars.errors import BadHistory, BadLot, BadNumber, BadThing
from shortbars.kinds import are_numbers_below, are_sorts, can_be_given, can_be_told, is_ascending, is_given_once
from shortbars.kinds import is_number_below, is_value, is_whole, is_word_of, name_of

MOST_CALLS = 10
# At which places the parts of a CALL stand in it.
BEGIN = 0
END = 1
THING = 2
WORD = 3
GIVEN = 4
TOLD = 5
PARTS_OF_CALL = 6


def need_history(thing):
    """The HISTORY itself; BadHistory of what is none."""
    if not _is_pair_of_tuples(thing):
        raise BadHistory("form")
    sorts, calls = thing
    if not are_sorts(sorts):
        raise BadHistory("sorts")
    if len(calls) > MOST_CALLS or not all(_is_call(sorts, call) for call in calls):
        raise BadHistory("calls")
    if not _keep_moments(calls):
        raise BadHistory("moments")
    if give_twice([call[THING:] for call in calls]):
        raise BadHistory("twice")
    return thing


def _is_pair_of_tuples(thing):
    if not isinstance(thing, tuple) or len(thing) != 2:
        return False
    return isinstance(thing[0], tuple) and isinstance(thing[1], tuple)


def _is_call(sorts, thing):
    if not isinstance(thing, tuple) or len(thing) != PARTS_OF_CALL:
        return False
    begin, end = thing[:THING]
    if not is_value(begin) or not is_value(end) or begin >= end:
        return False
    return is_step(sorts, thing[THING:])


def is_step(sorts, thing):
    """Whether it is a tuple (THING, WORD, GIVEN, TOLD), as it stands in a CALL of things of these SORTS."""
    if not isinstance(thing, tuple) or len(thing) != PARTS_OF_CALL - THING:
        return False
    return is_asking(sorts, thing[:3]) and can_be_told(thing[1], thing[3])


def is_asking(sorts, thing):
    """Whether a triple is (THING, WORD, GIVEN), as it stands in a CALL of things of these SORTS."""
    place, word, given = thing
    if not is_number_below(place, len(sorts)) or not is_word_of(word, sorts[place]):
        return False
    return can_be_given(word, given)


def _keep_moments(calls):
    return is_ascending([call[BEGIN] for call in calls]) and is_ascending(moments_of(calls))


def moments_of(calls):
    """The list of all BEGINS and ENDS of these CALLS, from the least one up."""
    return sorted([call[BEGIN] for call in calls] + [call[END] for call in calls])


def give_twice(steps):
    """Whether two of these tuples (THING, WORD, GIVEN, TOLD) have the same GIVEN, and may not."""
    once = [(thing, word, given) for thing, word, given, _ in steps if is_given_once(word)]
    return len(set(once)) < len(once)


def plain_history(history):
    """The HISTORY as plain tuples, strings and integers, as what is told of it has to be."""
    sorts, calls = need_history(history)
    return tuple([plain_sort(sort) for sort in sorts]), tuple([plain_call(call) for call in calls])


def plain_sort(sort):
    """The SORT as a plain string, or a plain pair."""
    # A slice is plain even where the string is of a class under str.
    if isinstance(sort, tuple):
        return "room", int(sort[1])
    return sort[:]


def plain_call(call):
    """A CALL as a plain one of plain things."""
    return (int(call[BEGIN]), int(call[END])) + plain_step(call[THING:])


def plain_step(step):
    """A tuple (THING, WORD, GIVEN, TOLD) as a plain one of plain things."""
    thing, word, given, told = step
    return int(thing), word[:], _plain_or_none(given), _plain_or_none(told)


def _plain_or_none(thing):
    if thing is None:
        return None
    return int(thing)


def lone_thing(history, names):
    """The pair of the SORT and the CALLS of a HISTORY of one thing with one of these names; BadHistory of others."""
    sorts, calls = plain_history(history)
    if len(sorts) != 1 or name_of(sorts[0]) not in names:
        raise BadHistory("sort")
    return sorts[0], calls


def lone_calls(history, names):
    """The CALLS of a HISTORY of one thing that has one of these SORTS; BadHistory of others."""
    return lone_thing(history, names)[1]


def leads(call, other):
    """Whether a CALL is ahead of the other one."""
    return call[END] < other[BEGIN]


def pairs_ahead(calls):
    """The list of all pairs of numbers of these CALLS of which the first one is ahead of the second one."""
    return [(number, far) for number, call in enumerate(calls) for far, other in enumerate(calls)
            if leads(call, other)]


def value_of(call):
    """The VALUE of a CALL, None if it has none."""
    if call[WORD] in ("add", "count", "draw"):
        return None
    if call[GIVEN] is None:
        return call[TOLD]
    return call[GIVEN]


def with_told(calls, number, told):
    """The CALLS with another TOLD of the one with this number."""
    return calls[:number] + (calls[number][:TOLD] + (told,),) + calls[number + 1:]


def is_ahead(history, number, far):
    """Whether the CALL number is ahead of the CALL far."""
    calls = plain_history(history)[1]
    if not is_number_below(number, len(calls)):
        raise BadNumber(number)
    if not is_number_below(far, len(calls)):
        raise BadNumber(far)
    return leads(calls[number], calls[far])


def is_order(history, value):
    """Whether any value is an ORDER of the HISTORY."""
    return is_order_of(plain_history(history)[1], value)


def is_order_of(calls, value):
    """Whether any value is an ORDER of these CALLS."""
    if not isinstance(value, tuple) or not all(is_whole(number) for number in value):
        return False
    if sorted(value) != list(range(len(calls))):
        return False
    return not any(leads(calls[far], calls[near]) for at, near in enumerate(value) for far in value[at + 1:])


def calls_of_lot(history, lot):
    """The HISTORY of a LOT."""
    sorts, calls = plain_history(history)
    if not are_numbers_below(lot, len(calls)):
        raise BadLot(lot)
    return sorts, tuple([calls[number] for number in lot])


def history_of_thing(history, thing):
    """The HISTORY of a thing."""
    sorts, calls = plain_history(history)
    if not is_number_below(thing, len(sorts)):
        raise BadThing(thing)
    kept = tuple([call[:THING] + (0,) + call[WORD:] for call in calls if call[THING] == thing])
    return (sorts[thing],), kept
