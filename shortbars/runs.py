"""Plain things, one CALL behind the other: what they tell, and what they are then."""

from shortbars.calls import GIVEN, THING, TOLD, WORD, is_order_of, plain_history
from shortbars.errors import BadOrder
from shortbars.kinds import name_of

# Each function below takes a SORT, what the thing is, and GIVEN; it returns the triple
# (whether the CALL can go, what it tells, what the thing is behind it).


def _write(sort, state, given):
    return True, None, given


def _read(sort, state, given):
    return True, state, state


def _put(sort, state, given):
    if sort == "heads":
        return True, None, tuple(sorted(state + (given,)))
    return True, None, state + (given,)


def _take(sort, state, given):
    if not state:
        return True, None, state
    if sort == "stack":
        return True, state[-1], state[:-1]
    return True, state[0], state[1:]


def _enter(sort, state, given):
    if len(state) >= sort[1] or given in state:
        return False, None, state
    return True, None, tuple(sorted(state + (given,)))


def _leave(sort, state, given):
    if given not in state:
        return False, None, state
    return True, None, tuple([inside for inside in state if inside != given])


def _add(sort, state, given):
    return True, None, state + 1


def _count(sort, state, given):
    return True, state, state


def _draw(sort, state, given):
    return True, state, state + 1


def _join(sort, state, given):
    if given in state:
        return False, None, state
    return True, None, tuple(sorted(state + (given,)))


def _has(sort, state, given):
    if given in state:
        return True, 1, state
    return True, 0, state


ACTIONS = {
    "write": _write,
    "read": _read,
    "put": _put,
    "take": _take,
    "enter": _enter,
    "leave": _leave,
    "add": _add,
    "count": _count,
    "draw": _draw,
    "join": _join,
    "drop": _leave,
    "has": _has,
}


def first_states(sorts):
    """The tuple of what things of these SORTS are at first."""
    return tuple([_first_state(name_of(sort)) for sort in sorts])


def _first_state(name):
    if name == "cell":
        return None
    if name in ("counter", "tickets"):
        return 0
    return ()


def step(sorts, states, call):
    """The triple of whether a CALL can go, what it tells, and what the things are behind it."""
    thing = call[THING]
    action = ACTIONS[call[WORD]]
    goes, told, state = action(sorts[thing], states[thing], call[GIVEN])
    return goes, told, states[:thing] + (state,) + states[thing + 1:]


def states_told(sorts, calls, order):
    """What the things are behind these CALLS in this turn; None if one cannot go, or does not tell its TOLD."""
    states = first_states(sorts)
    for number in order:
        goes, told, states = step(sorts, states, calls[number])
        if not goes or told != calls[number][TOLD]:
            return None
    return states


def told_by(history, order):
    """What plain things tell by an ORDER, whatever was TOLD."""
    sorts, calls = plain_history(history)
    if not is_order_of(calls, order):
        raise BadOrder(order)
    states = first_states(sorts)
    answers = []
    for number in order:
        goes, told, states = step(sorts, states, calls[number])
        answers.append((goes, told))
        if not goes:
            break
    return tuple(answers)


def is_explanation(history, value):
    """Whether any value is an EXPLANATION of the HISTORY."""
    sorts, calls = plain_history(history)
    return explains(sorts, calls, value)


def explains(sorts, calls, value):
    """Whether any value is an EXPLANATION of the HISTORY of these SORTS and CALLS."""
    return is_order_of(calls, value) and states_told(sorts, calls, value) is not None


def states_by(history, order):
    """What the things are behind all CALLS of an EXPLANATION."""
    sorts, calls = plain_history(history)
    if not explains(sorts, calls, order):
        raise BadOrder(order)
    return states_told(sorts, calls, order)
