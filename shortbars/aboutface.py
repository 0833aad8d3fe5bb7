"""HISTORIES turned about: the last END first, and what was put taken."""

from shortbars.calls import BEGIN, END, GIVEN, TOLD, WORD, is_order_of, lone_thing, moments_of, value_of
from shortbars.errors import BadHistory, BadOrder
from shortbars.kinds import WORDS, name_of

# Of each SORT the WORDS by which a VALUE comes in and goes out.
PAIRS = {
    "queue": ("put", "take"),
    "stack": ("put", "take"),
    "room": ("enter", "leave"),
    "set": ("join", "drop"),
}


def is_closed(history):
    """Whether the HISTORY is closed."""
    sort, calls = lone_thing(history, tuple(WORDS))
    return _is_closed(name_of(sort), calls)


def _is_closed(name, calls):
    if name == "tickets":
        return all(call[TOLD] < len(calls) for call in calls)
    if name == "counter":
        adds = _adds_of(calls)
        return all(call[TOLD] <= adds for call in calls if call[WORD] == "count")
    if name not in PAIRS:
        return False
    comes, goes = PAIRS[name]
    came = [call[GIVEN] for call in calls if call[WORD] == comes]
    gone = [value_of(call) for call in calls if call[WORD] == goes and value_of(call) is not None]
    return sorted(came) == sorted(gone)


def _adds_of(calls):
    return len([call for call in calls if call[WORD] == "add"])


def faced_about(history):
    """The HISTORY turned about, None of one that is not closed."""
    sort, calls = lone_thing(history, tuple(WORDS))
    name = name_of(sort)
    if not _is_closed(name, calls):
        return None
    turned = [_turned(name, calls, call) for call in calls]
    return (sort,), tuple(sorted(turned, key=lambda call: call[BEGIN]))


def _turned(name, calls, call):
    """One of these CALLS as it is in the HISTORY turned about."""
    top = max(moments_of(calls))
    return (top - call[END], top - call[BEGIN], 0) + _step_about(name, calls, call)


def _step_about(name, calls, call):
    """WORD, GIVEN and TOLD of one of these CALLS as they are in the HISTORY turned about."""
    word, given, told = call[WORD:]
    if word == "draw":
        return word, given, len(calls) - 1 - told
    if word == "count":
        return word, given, _adds_of(calls) - told
    if word == "has" or value_of(call) is None:
        return word, given, told
    comes, goes = PAIRS[name]
    if word == comes:
        return (goes,) + _given_and_told(goes, value_of(call))
    return (comes,) + _given_and_told(comes, value_of(call))


def _given_and_told(word, value):
    """GIVEN and TOLD of a CALL with this WORD and this VALUE."""
    if word == "take":
        return None, value
    return value, None


def order_about(history, order):
    """The ORDER of the HISTORY turned about that is this ORDER read backwards."""
    sort, calls = lone_thing(history, tuple(WORDS))
    if not is_order_of(calls, order):
        raise BadOrder(order)
    if not _is_closed(name_of(sort), calls):
        raise BadHistory("closed")
    # What ended last begins first.
    turned = sorted(range(len(calls)), key=lambda number: -calls[number][END])
    places = {number: place for place, number in enumerate(turned)}
    return tuple([places[number] for number in order[::-1]])
