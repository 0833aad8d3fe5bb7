"""STANDINGS: what is put of a small HISTORY, and what the things are then, where it can go on to an EXPLANATION."""

from shortbars.calls import plain_history
from shortbars.errors import BadStanding
from shortbars.kinds import is_alike
from shortbars.search import need_few
from shortbars.webs import ways_of


def standings(history):
    """The tuple of all live STANDINGS, those with fewer CALLS ahead, then by LOT."""
    ways = _ways_in(history)
    # Those with the same LOT stand as they were found: STATES with None and integers have no order.
    return tuple(sorted(list(ways), key=lambda standing: (len(standing[0]), standing[0])))


def _ways_in(history):
    """The dict of the COUNTS of all live STANDINGS of a HISTORY of few CALLS."""
    sorts, calls = plain_history(history)
    need_few(calls)
    return ways_of(sorts, calls)


def is_live(history, value):
    """Whether any value is a live STANDING."""
    return _find(_ways_in(history), value) is not None


def _find(ways, value):
    """The live STANDING that any value is, None if it is none."""
    for standing in ways:
        if is_alike(value, standing):
            return standing
    return None


def count_from(history, value):
    """The COUNT of a live STANDING: in how many ways it goes on."""
    ways = _ways_in(history)
    standing = _find(ways, value)
    if standing is None:
        raise BadStanding(value)
    return ways[standing]


def last_states(history):
    """The tuple of STATES of all live STANDINGS with all CALLS, each once."""
    many = len(plain_history(history)[1])
    return tuple([states for lot, states in standings(history) if len(lot) == many])
