"""HISTORIES of one SORT read as such of another SORT."""

from shortbars.calls import BEGIN, END, TOLD, WORD, lone_thing, plain_sort, value_of
from shortbars.errors import BadSort
from shortbars.kinds import WORDS, is_sort, name_of
from shortbars.putting import is_empty_answer, is_unput, takes_of, values_put

LINES = ("queue", "stack", "heads")
# Which WORD of a room stands for which one of all others, and which one of a set for those of a room.
OTHER_WORDS = {
    "put": "enter",
    "take": "leave",
    "join": "enter",
    "drop": "leave",
    "enter": "join",
    "leave": "drop",
}


def read_as(history, sort):
    """The HISTORY read as this SORT, None where it cannot be."""
    own, calls = lone_thing(history, tuple(WORDS))
    if not is_sort(sort):
        raise BadSort(sort)
    name = name_of(own)
    wanted = name_of(sort)
    if name in LINES and wanted in LINES:
        return (plain_sort(sort),), calls
    if (wanted == "room" and _fits_room(name, calls)) or (wanted == "set" and name == "room"):
        return (plain_sort(sort),), tuple([_renamed(call) for call in calls])
    return None


def _fits_room(name, calls):
    """Whether CALLS of a SORT with this name can be read as those of a room."""
    if name == "set":
        return not [call for call in calls if call[WORD] == "has"]
    if name not in LINES:
        return False
    taken = [call[TOLD] for call in calls if call[WORD] == "take"]
    return None not in taken and len(set(taken)) == len(taken)


def _renamed(call):
    """The CALL with the WORD that stands for its own, its VALUE being GIVEN."""
    return call[:WORD] + (OTHER_WORDS[call[WORD]], value_of(call), None)


def is_apart(history):
    """Whether the HISTORY is apart."""
    sort, calls = lone_thing(history, tuple(WORDS))
    if name_of(sort) not in LINES:
        return False
    if any(is_empty_answer(call) or is_unput(calls, number) for number, call in enumerate(calls)):
        return False
    if any(len(takes_of(calls, value)) > 1 for value in values_put(calls)):
        return False
    return _are_apart(sorted([_stay_of(calls, value) for value in values_put(calls)], key=lambda stay: stay[0]))


def _stay_of(calls, value):
    """The pair of the least BEGIN and the greatest END of a VALUE's CALLS, None for the END if it is not taken."""
    own = [call for call in calls if value_of(call) == value]
    begin = min([call[BEGIN] for call in own])
    if not takes_of(calls, value):
        return begin, None
    return begin, max([call[END] for call in own])


def _are_apart(stays):
    """Whether each of these ends ahead of the next one."""
    return all(stay[1] is not None and stay[1] < other[0] for stay, other in zip(stays, stays[1:]))
