"""How large a room has to be."""

from shortbars.calls import moments_of
from shortbars.errors import BadNumber
from shortbars.kinds import is_room
from shortbars.rooms import crowd_of, free_of, odd_leaves, room_calls, window_in


def least_room(history):
    """The LEAST ROOM, None if no room explains the CALLS."""
    calls = room_calls(history)
    if odd_leaves(calls):
        return None
    crowds = [len(crowd_of(calls, moment)) for moment in moments_of(calls)]
    # Who comes and goes between two moments does it where the fewest are in.
    through = [1 + min([len(crowd_of(calls, moment)) for moment in window_in(calls, value)])
               for value in free_of(calls)]
    return max([1] + crowds + through)


def sized(history, number):
    """The HISTORY with the room of so many."""
    calls = room_calls(history)
    if not is_room(("room", number)):
        raise BadNumber(number)
    return (("room", int(number)),), calls
