"""Looking for the least EXPLANATION of a HISTORY of any SORTS, call by call."""

from shortbars.calls import TOLD, leads, plain_history
from shortbars.errors import TooMany
from shortbars.runs import first_states, step

MOST_SEARCHED = 7


def is_explained(history):
    """Whether the HISTORY is explained; TooMany of more than 7 CALLS."""
    return first_explanation(history) is not None


def first_explanation(history):
    """The least EXPLANATION, None if there is none; TooMany of more than 7 CALLS."""
    sorts, calls = plain_history(history)
    need_few(calls)
    return _least_rest(sorts, calls, tuple(range(len(calls))), first_states(sorts), {})


def need_few(calls):
    """TooMany of more CALLS than are searched."""
    if len(calls) > MOST_SEARCHED:
        raise TooMany(MOST_SEARCHED)


def _least_rest(sorts, calls, left, states, barren):
    """The least turn of the CALLS left that goes on from these STATES, None if there is none."""
    if not left:
        return ()
    # What comes behind hangs on what is left and on the STATES alone, so no pair is tried twice.
    if (left, states) in barren:
        return None
    for number in left:
        goes, told, behind = step(sorts, states, calls[number])
        if not goes or told != calls[number][TOLD] or not _can_be_next(calls, left, number):
            continue
        others = tuple([other for other in left if other != number])
        rest = _least_rest(sorts, calls, others, behind, barren)
        if rest is not None:
            return (number,) + rest
    barren[(left, states)] = True
    return None


def _can_be_next(calls, left, number):
    return not any(leads(calls[other], calls[number]) for other in left)
