"""EXPLANATIONS by number, how many there are, and where in them a CALL stands."""

from shortbars.calls import plain_history
from shortbars.errors import BadNumber, BadTurn
from shortbars.kinds import is_number_below
from shortbars.search import need_few
from shortbars.webs import first_standing, live_steps, ways_of


def places_of(history, number):
    """The ascending tuple of the PLACES of a CALL."""
    sorts, calls = plain_history(history)
    if not is_number_below(number, len(calls)):
        raise BadNumber(number)
    need_few(calls)
    ways = ways_of(sorts, calls)
    return tuple(sorted({len(standing[0]) for standing in ways
                         for at, _ in live_steps(sorts, calls, ways, standing) if at == number}))


def how_many(history):
    """The COUNT: how many EXPLANATIONS there are."""
    sorts, calls = plain_history(history)
    need_few(calls)
    return ways_of(sorts, calls).get(first_standing(sorts), 0)


def explanation_at(history, turn):
    """The EXPLANATION with this number."""
    sorts, calls = plain_history(history)
    need_few(calls)
    ways = ways_of(sorts, calls)
    standing = first_standing(sorts)
    if not is_number_below(turn, ways.get(standing, 0)):
        raise BadTurn(turn)
    order = ()
    less = turn
    while len(order) < len(calls):
        steps = live_steps(sorts, calls, ways, standing)
        # Those that begin with a lesser number are all less.
        while less >= ways[steps[0][1]]:
            less -= ways[steps[0][1]]
            steps = steps[1:]
        order = order + (steps[0][0],)
        standing = steps[0][1]
    return order
