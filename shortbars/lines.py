"""Queues: the spans in which VALUES are surely in, those out of turn, and what covers a call that told of nothing."""

from shortbars.calls import BEGIN, END, leads, lone_calls
from shortbars.errors import BadNumber, BadValue
from shortbars.kinds import is_number_below, is_value
from shortbars.putting import fewest_cover, is_empty_answer, put_of, spans_of, takes_of, values_put


def queue_calls(history):
    """The CALLS of a HISTORY of one queue; BadHistory("sort") of others."""
    return lone_calls(history, ("queue",))


def queue_span(history, value):
    """The SURE SPAN of a VALUE with a "put", None without one."""
    calls = queue_calls(history)
    if not is_value(value) or put_of(calls, value) is None:
        raise BadValue(value)
    return spans_of(calls).get(value)


def out_of_turn(history):
    """The ascending tuple of all pairs of VALUES with "puts", the first one out of turn with the second one."""
    return tuple(pairs_out_of_turn(queue_calls(history)))


def pairs_out_of_turn(calls):
    """The ascending list of the pairs of out_of_turn."""
    values = values_put(calls)
    return [(value, far) for value in values for far in values if _is_out_of_turn(calls, value, far)]


def _is_out_of_turn(calls, value, far):
    if not leads(calls[put_of(calls, value)], calls[put_of(calls, far)]):
        return False
    takes = takes_of(calls, value)
    others = takes_of(calls, far)
    if not others:
        return False
    return not takes or leads(calls[others[0]], calls[takes[0]])


def is_before(calls, value, far):
    """Whether a VALUE is before another one, both with a "put"."""
    put = calls[put_of(calls, value)]
    other = calls[put_of(calls, far)]
    takes = takes_of(calls, value)
    others = takes_of(calls, far)
    if leads(put, other) or (takes and not others):
        return True
    if not takes:
        return False
    take = calls[takes[0]]
    return leads(take, other) or leads(take, calls[others[0]])


def cover_of(history, number):
    """A COVER, with as few VALUES as there can be, of a "take" that TOLD None; None without any."""
    calls = queue_calls(history)
    if not is_number_below(number, len(calls)) or not is_empty_answer(calls[number]):
        raise BadNumber(number)
    return fewest_cover(spans_of(calls), calls[number])


def is_cover(calls, number, value):
    """Whether any value is a COVER of this CALL."""
    spans = spans_of(calls)
    if not isinstance(value, tuple) or len(value) == 0:
        return False
    if not all(is_value(part) and part in spans for part in value):
        return False
    reach = calls[number][BEGIN]
    for part in value:
        if reach is None or spans[part][0] >= reach:
            return False
        reach = spans[part][1]
    return reach is None or reach > calls[number][END]
