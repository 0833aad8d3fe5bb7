"""Whether a HISTORY of heads by rank is explained: PAPERS that tell, their check, and an EXPLANATION by STAIRS."""

from itertools import combinations

from shortbars.calls import lone_calls
from shortbars.errors import BadPaper
from shortbars.kinds import is_number_below
from shortbars.papers import word_of_paper
from shortbars.putting import is_empty_answer, is_matched, is_take_flaw, put_of, take_flaws, takes_of, values_put
from shortbars.runs import explains
from shortbars.stairs import are_put, gaps_of_call, heads_calls, late_among, rest_by, stairs_among

FORMS = (("order", 2), ("unput", 2), ("twice", 3), ("early", 2), ("late", 2), ("covered", 3))
SORTS = ("heads",)
# Where something stands in a GAP: what was in already goes out first, then what is in for no time
# at all goes in and out, then what finds nothing in; at last what stays goes in.
OUT = 0
THROUGH = 1
EMPTY = 2
IN = 3


def is_explained_heads(history):
    """Whether the HISTORY is explained."""
    return not heads_flaws(lone_calls(history, SORTS))


def heads_paper(history):
    """The PAPER on whether the HISTORY is explained."""
    calls = lone_calls(history, SORTS)
    flaws = heads_flaws(calls)
    if flaws:
        return flaws[0]
    return "order", _order_of(calls)


def order_by_stairs(history):
    """An EXPLANATION, None if there is none."""
    calls = lone_calls(history, SORTS)
    if heads_flaws(calls):
        return None
    return _order_of(calls)


def heads_flaws(calls):
    """A list of PAPERS that bar an EXPLANATION; [] just if it is explained."""
    unmatched = take_flaws(calls)
    if unmatched:
        return unmatched
    values = tuple(values_put(calls))
    if late_among(calls, values) is not None:
        return [("late", _fewest_late(calls))]
    return [("covered", number, values) for number, call in enumerate(calls)
            if is_empty_answer(call) and _free_gap(calls, values, call) is None]


def least_late(history):
    """The first one of the fewest VALUES of which the last one, and no other one, is late; None if there are none."""
    return _fewest_late(heads_calls(history))


def _fewest_late(calls):
    values = values_put(calls)
    for size in range(1, len(values) + 1):
        for some in combinations(values, size):
            if late_among(calls, some) == some[-1]:
                return some
    return None


def _free_gap(calls, values, call):
    """The first GAP of an empty answer that is in no REST of these VALUES, None if there is none."""
    rests = [rest_by(calls, stair) for stair in stairs_among(calls, values).values()]
    for gap in gaps_of_call(calls, call):
        if not any(gap in rest for rest in rests):
            return gap
    return None


def _order_of(calls):
    """An EXPLANATION of CALLS without flaws: each of them gets a place in one of its GAPS."""
    values = values_put(calls)
    places = {}
    for value, (gap, end) in stairs_among(calls, values).items():
        through = gap == end
        places[put_of(calls, value)] = (gap, THROUGH if through else IN, value, 0)
        for take in takes_of(calls, value):
            places[take] = (end, THROUGH if through else OUT, value, 1)
    for number, call in enumerate(calls):
        if is_empty_answer(call):
            places[number] = (_free_gap(calls, values, call), EMPTY, number, 0)
    return tuple(sorted(range(len(calls)), key=lambda at: places[at]))


def check_heads(history, paper):
    """The first word of a PAPER that holds; BadPaper of any other one."""
    calls = lone_calls(history, SORTS)
    word = word_of_paper(paper, FORMS)
    if not _holds(calls, word, paper[1:]):
        raise BadPaper(word)
    return word


def _holds(calls, word, things):
    if word == "order":
        return explains(SORTS, calls, things[0])
    if word in ("unput", "twice", "early"):
        return is_take_flaw(calls, word, things)
    if not is_matched(calls) or not are_put(calls, things[-1]):
        return False
    late = late_among(calls, things[-1])
    if word == "late":
        return late is not None and late == things[0][-1]
    if not is_number_below(things[0], len(calls)) or not is_empty_answer(calls[things[0]]) or late is not None:
        return False
    return _free_gap(calls, things[1], calls[things[0]]) is None
