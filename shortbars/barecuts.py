"""Bare places, at which a HISTORY of one thing can be cut in two."""

from shortbars.calls import GIVEN, TOLD, WORD, lone_thing, value_of
from shortbars.errors import BadPlace
from shortbars.kinds import is_whole, name_of
from shortbars.thin import quiet_places

NAMES = ("queue", "stack", "heads", "room", "counter", "tickets", "set")
COMING = ("put", "enter", "join")
GOING = ("take", "leave", "drop")


def bare_places(history):
    """The ascending tuple of all bare places."""
    calls = lone_thing(history, NAMES)[1]
    # Nothing comes in to a counter, and to tickets, so that each of their quiet places is bare.
    return tuple([place for place in quiet_places(history) if _is_bare(calls[:place])])


def _is_bare(calls):
    """Whether each VALUE that comes in by these CALLS goes out by one of them."""
    gone = [value_of(call) for call in calls if call[WORD] in GOING]
    return all(call[GIVEN] in gone for call in calls if call[WORD] in COMING)


def cut_in_two(history, place):
    """The pair of the HISTORIES ahead of a bare place and behind it, the second one perhaps None."""
    places = bare_places(history)
    if not is_whole(place) or place not in places:
        raise BadPlace(place)
    sort, calls = lone_thing(history, NAMES)
    return ((sort,), calls[:place]), _rest_of(sort, calls[:place], calls[place:])


def _rest_of(sort, done, calls):
    """The HISTORY of the CALLS behind those that are done, None if one of them told less than these make."""
    made = _made_by(name_of(sort), done)
    told = [call[TOLD] for call in calls if call[WORD] in ("count", "draw")]
    if min(told, default=made) < made:
        return None
    return (sort,), tuple([_less(call, made) for call in calls])


def _made_by(name, calls):
    """How much a counter, or tickets, has become by these CALLS; 0 of all else."""
    if name == "tickets":
        return len(calls)
    return len([call for call in calls if call[WORD] == "add"])


def _less(call, made):
    if call[WORD] in ("count", "draw"):
        return call[:TOLD] + (call[TOLD] - made,)
    return call
