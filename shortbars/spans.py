"""Stacks and heads: whether what is taken was put, and the SPANS in which it is surely in."""

from shortbars.calls import lone_calls
from shortbars.errors import BadValue
from shortbars.kinds import is_value
from shortbars.putting import is_matched, matched_calls, spans_of, values_put

SORTS = ("stack", "heads")


def matches(history):
    """Whether the HISTORY is matched."""
    return is_matched(lone_calls(history, SORTS))


def span_of(history, value):
    """The SPAN of a VALUE that has one."""
    spans = spans_of(matched_calls(history, SORTS))
    if not is_value(value) or value not in spans:
        raise BadValue(value)
    return spans[value]


def all_spans(history):
    """The ascending tuple of all VALUES with SPANS."""
    return tuple(spans_of(matched_calls(history, SORTS)))


def loose_values(history):
    """The ascending tuple of all VALUES that are free."""
    calls = matched_calls(history, SORTS)
    spans = spans_of(calls)
    return tuple([value for value in values_put(calls) if value not in spans])
