"""Among how few queues, or cells, the VALUES of a HISTORY can be dealt so that each one is explained."""

from shortbars.calls import value_of
from shortbars.cellpapers import cell_flaws
from shortbars.cells import are_at_odds, cell_calls, kins_of, near_of
from shortbars.errors import BadHistory, BadPaper
from shortbars.kinds import are_values, is_number_below, is_value
from shortbars.linepapers import queue_flaws
from shortbars.linerows import calls_of_rows
from shortbars.lines import pairs_out_of_turn
from shortbars.putting import values_put

MOST_DEALT = 10


def fewest_queues(history):
    """The FEWEST queues that the VALUES of a HISTORY of one queue can be dealt to."""
    return len(queue_dealing(history)[1])


def queue_dealing(history):
    """A PAPER on the FEWEST queues."""
    calls = calls_of_rows(history)
    pairs = pairs_out_of_turn(calls)
    chains = [(value, _longest_chain(pairs, value)) for value in values_put(calls)]
    # Of two VALUES out of turn the second one ends a longer CHAIN: so they go to unlike queues.
    dealing = tuple([(value, len(chain) - 1) for value, chain in chains])
    return dealing, max([chain for _, chain in chains], key=len, default=())


def _longest_chain(pairs, value):
    """The longest CHAIN that ends with this VALUE, by all pairs out of turn."""
    return max([_longest_chain(pairs, one) for one, other in pairs if other == value], key=len, default=()) + (value,)


def check_queue_dealing(history, paper):
    """The FEWEST, by a PAPER that holds; BadPaper of any other one."""
    calls = calls_of_rows(history)
    dealing, chain = _pair_of(paper)
    if not _is_dealing(dealing, values_put(calls)) or any(queue_flaws(part) for part in _dealt(calls, dealing)):
        raise BadPaper("dealing")
    if not _is_chain(calls, chain):
        raise BadPaper("chain")
    return _sum_of(dealing, chain)


def _pair_of(paper):
    if not isinstance(paper, tuple) or len(paper) != 2:
        raise BadPaper("form")
    return paper


def _is_dealing(thing, values):
    """Whether it is a DEALING, right or not, of just these VALUES, ascending."""
    if not isinstance(thing, tuple) or not all(isinstance(pair, tuple) and len(pair) == 2 for pair in thing):
        return False
    if not all(is_value(value) and is_number_below(number, MOST_DEALT) for value, number in thing):
        return False
    return [value for value, _ in thing] == values


def _dealt(calls, dealing):
    """The list of the CALLS of each queue, or cell, that something is dealt to."""
    numbers = dict(dealing)
    used = sorted({number for _, number in dealing})
    return [tuple([call for call in calls if numbers[value_of(call)] == one]) for one in used]


def _is_chain(calls, thing):
    if not isinstance(thing, tuple) or not all(is_value(value) and value in values_put(calls) for value in thing):
        return False
    pairs = pairs_out_of_turn(calls)
    return all(pair in pairs for pair in zip(thing, thing[1:]))


def _sum_of(dealing, values):
    """How many queues, or cells, are dealt to, if there are as many of these VALUES; BadPaper("sum") else."""
    many = len({number for _, number in dealing})
    if many != len(values):
        raise BadPaper("sum")
    return many


def fewest_cells(history):
    """The FEWEST cells that the VALUES of a HISTORY of one cell can be dealt to."""
    return len(cell_dealing(history)[1])


def _cell_calls(history):
    """The CALLS of a HISTORY of one cell that FEWEST are told of; BadHistory of others."""
    calls = cell_calls(history)
    flaws = [paper for paper in cell_flaws(calls) if paper[0] in ("unwritten", "early")]
    if flaws or None in kins_of(calls):
        raise BadHistory("rows")
    return calls


def cell_dealing(history):
    """A PAPER on the FEWEST cells."""
    calls = _cell_calls(history)
    kins = kins_of(calls)
    numbers = {}
    crowd = ()
    # What is dealt ahead of a VALUE, and is at odds with it, is in at its NEAR: all that is at odds with each other.
    for value in sorted(list(kins), key=lambda mark: near_of(calls, kins[mark])):
        rivals = [other for other in numbers if are_at_odds(calls, kins, value, other)]
        taken = [numbers[other] for other in rivals]
        numbers[value] = [number for number in range(MOST_DEALT) if number not in taken][0]
        if len(rivals) >= len(crowd):
            crowd = tuple(sorted(rivals + [value]))
    return tuple(sorted(numbers.items())), crowd


def check_cell_dealing(history, paper):
    """The FEWEST, by a PAPER that holds; BadPaper of any other one."""
    calls = _cell_calls(history)
    kins = kins_of(calls)
    dealing, crowd = _pair_of(paper)
    if not _is_dealing(dealing, list(kins)) or any(cell_flaws(part) for part in _dealt(calls, dealing)):
        raise BadPaper("dealing")
    if not _is_crowd(calls, kins, crowd):
        raise BadPaper("crowd")
    return _sum_of(dealing, crowd)


def _is_crowd(calls, kins, thing):
    if not are_values(thing) or not all(value in kins for value in thing):
        return False
    return all(are_at_odds(calls, kins, value, other) for at, value in enumerate(thing) for other in thing[at + 1:])
