"""BLOCKS of a stack: the PILES that hang together, and from when to when something is surely in."""

from shortbars.errors import BadMoment
from shortbars.kinds import is_value
from shortbars.piles import joined_parts, stack_calls, stretch_of
from shortbars.putting import spans_of


def blocks(history):
    """The tuple of all BLOCKS, that with the least FROM first."""
    return tuple(joined_parts(spans_of(stack_calls(history))))


def stretches(history):
    """The tuple of the stretches of all BLOCKS, in their turn."""
    return tuple(_stretches_of(stack_calls(history)))


def _stretches_of(calls):
    spans = spans_of(calls)
    return [stretch_of(spans, block) for block in joined_parts(spans)]


def is_filled(history, moment):
    """Whether a moment, one of a CALL or not, lies in a stretch."""
    calls = stack_calls(history)
    if not is_value(moment):
        raise BadMoment(moment)
    return any(begin <= moment and (end is None or moment <= end) for begin, end in _stretches_of(calls))
