"""Whether one thing with open CALLS is good: whether some of these, told whatever they can be, explain all others.

A CALL here is (BEGIN, END, THING, WORD, GIVEN, TOLD) as ever; END and TOLD of an open one are None. As it
would end behind all moments, an open one is ahead of none: so of several "takes", or "draws", that are open
the one that began first can stand wherever another one can.
"""

from itertools import permutations

from shortbars.calls import BEGIN, END, GIVEN, TOLD, WORD, value_of
from shortbars.deciding import is_explained_alone

# Behind all moments of a WATCH.
LATE = 100


def is_open(call):
    """Whether a CALL has no END as yet."""
    return call[END] is None


def can_be_explained(sort, calls):
    """Whether some HISTORY of a thing of this SORT is explained that has all ended CALLS, and perhaps open ones.

    What an open CALL puts in that no ended one has to do with is left out, and what is taken of it, too: without
    a VALUE all else is explained as before. An open "take" that tells None changes nothing; which VALUES of ended
    "puts" the others tell is tried.
    """
    ended = [call for call in calls if not is_open(call)]
    opens = [call for call in calls if is_open(call)]
    if sort == "tickets":
        return _explains(sort, ended + _filling(ended, opens))
    fixed = ended + _comers(ended, opens)
    fixed = fixed + _goers(fixed, opens)
    takes = [call for call in opens if call[WORD] == "take"]
    taken = [call[TOLD] for call in ended]
    kept = [call[GIVEN] for call in fixed if call[WORD] == "put" and call[GIVEN] not in taken]
    for many in range(min(len(takes), len(kept)) + 1):
        for row in permutations(kept, many):
            if _explains(sort, fixed + [_done(call, told) for call, told in zip(takes, row)]):
                return True
    return False


def _explains(sort, calls):
    """Whether these CALLS in their turn, all of which have an END, are explained."""
    return is_explained_alone(sort, tuple(sorted(calls, key=lambda call: call[BEGIN])))


def _done(call, told):
    """An open CALL as one that ended behind all moments, and told this."""
    # No two began at one moment, so no two end at one.
    return (call[BEGIN], LATE + call[BEGIN]) + call[2:TOLD] + (told,)


def _filling(ended, opens):
    """The open "draws" that tell what is missing, those that began first the least."""
    told = [call[TOLD] for call in ended]
    # No explained draw tells more than how many others there are.
    most = min(max(told, default=0), len(ended) + len(opens))
    missing = [number for number in range(most) if number not in told]
    return [_done(call, number) for call, number in zip(opens, missing)]


def _comers(ended, opens):
    """The open CALLS by which something comes in that the ended ones need, and all that add."""
    needed = [value_of(call) for call in ended]
    return [_done(call, None) for call in opens
            if call[WORD] == "add" or (call[WORD] in ("write", "put", "enter", "join") and call[GIVEN] in needed)]


def _goers(fixed, opens):
    """The open CALLS by which something goes out that came in: they can do so behind all others."""
    came = [call[GIVEN] for call in fixed if call[WORD] in ("enter", "join")]
    return [_done(call, None) for call in opens if call[WORD] in ("leave", "drop") and call[GIVEN] in came]
