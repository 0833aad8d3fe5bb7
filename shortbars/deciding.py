"""Whether a HISTORY of one thing, of whichever SORT, is explained: of up to ten CALLS, without a search."""

from shortbars.cellpapers import cell_flaws
from shortbars.counters import count_flaws
from shortbars.flags import flag_flaws
from shortbars.heads import heads_flaws
from shortbars.kinds import name_of
from shortbars.linepapers import queue_flaws
from shortbars.rooms import room_flaws
from shortbars.stacks import stack_flaws
from shortbars.tickets import ticket_flaws


def is_explained_alone(sort, calls):
    """Whether the HISTORY of these CALLS of one thing of this SORT is explained."""
    return not _flaws_of(sort, calls)


def _flaws_of(sort, calls):
    """A list of PAPERS that bar an EXPLANATION; [] just if it is explained."""
    name = name_of(sort)
    if name == "cell":
        return cell_flaws(calls)
    if name == "queue":
        return queue_flaws(calls)
    if name == "stack":
        return stack_flaws(calls)
    if name == "heads":
        return heads_flaws(calls)
    if name == "room":
        return room_flaws(calls, sort[1])
    if name == "counter":
        return count_flaws(calls)
    if name == "tickets":
        return ticket_flaws(calls)
    return flag_flaws(calls)
