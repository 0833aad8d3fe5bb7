"""Counters: what a count could tell as well."""

from shortbars.calls import with_told
from shortbars.counters import adds_of, count_flaws, counter_calls, is_count
from shortbars.errors import BadNumber, BadValue
from shortbars.kinds import is_value


def could_tell(history, number):
    """The ascending tuple of all VALUES that a "count" could tell."""
    calls = counter_calls(history)
    if not is_count(calls, number):
        raise BadNumber(number)
    # It tells no more than there is to add.
    return tuple([told for told in range(len(adds_of(calls)) + 1) if not count_flaws(with_told(calls, number, told))])


def told_instead(history, number, some):
    """The HISTORY with some, a VALUE, as the TOLD of a "count"."""
    calls = counter_calls(history)
    if not is_count(calls, number):
        raise BadNumber(number)
    if not is_value(some):
        raise BadValue(some)
    return ("counter",), with_told(calls, number, int(some))
