"""Where heads by rank are as stacks and queues are: if what is put falls, or rises, all the time."""

from shortbars.calls import leads, lone_calls
from shortbars.errors import BadSort
from shortbars.putting import put_of, values_put

SORTS = ("queue", "stack", "heads")


def puts_fall(history):
    """Whether of each two VALUES the "put" of the greater one is ahead of that of the lesser one."""
    return _lead_on(_puts_of(history)[::-1])


def puts_rise(history):
    """Whether of each two VALUES the "put" of the lesser one is ahead of that of the greater one."""
    return _lead_on(_puts_of(history))


def _puts_of(history):
    """The list of the "puts" of a HISTORY of heads, that of the least VALUE first."""
    calls = lone_calls(history, ("heads",))
    return [calls[put_of(calls, value)] for value in values_put(calls)]


def _lead_on(row):
    # What is ahead leads on, so it is enough to look at neighbours.
    return all(leads(call, other) for call, other in zip(row, row[1:]))


def as_sort(history, sort):
    """The HISTORY with the same CALLS and this SORT."""
    calls = lone_calls(history, SORTS)
    if not isinstance(sort, str) or sort not in SORTS:
        raise BadSort(sort)
    return (sort[:],), calls
