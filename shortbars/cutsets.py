"""CUTS: the VALUES without which a HISTORY of one thing is explained, and as few of them as there can be."""

from itertools import combinations

from shortbars.calls import lone_thing, value_of
from shortbars.deciding import is_explained_alone
from shortbars.errors import BadValue
from shortbars.kinds import are_values, is_value

NAMES = ("cell", "queue", "stack", "heads", "room", "set")


def is_cut(history, some):
    """Whether any value is a CUT."""
    sort, calls = lone_thing(history, NAMES)
    if not are_values(some) or not all(value in _values_of(calls) for value in some):
        return False
    return _cuts(sort, calls, some)


def _values_of(calls):
    """The ascending list of all VALUES of these CALLS."""
    return sorted({value_of(call) for call in calls if value_of(call) is not None})


def _cuts(sort, calls, some):
    """Whether these VALUES are a CUT."""
    # A CALL without a VALUE has None, which is none of these.
    return is_explained_alone(sort, tuple([call for call in calls if value_of(call) not in some]))


def least_cuts(history):
    """The ascending tuple of all LEAST CUTS."""
    sort, calls = lone_thing(history, NAMES)
    values = _values_of(calls)
    for size in range(len(values) + 1):
        found = [some for some in combinations(values, size) if _cuts(sort, calls, some)]
        if found:
            return tuple(found)
    # What is left without all VALUES is always explained, so it does not come to this.
    return ()


def cut_size(history):
    """How many VALUES a LEAST CUT has."""
    return len(least_cuts(history)[0])


def is_in_all(history, value):
    """Whether a VALUE is in each LEAST CUT."""
    calls = lone_thing(history, NAMES)[1]
    if not is_value(value) or value not in _values_of(calls):
        raise BadValue(value)
    return all(value in some for some in least_cuts(history))
