"""Whether a HISTORY of one queue is explained: PAPERS that tell, and their check."""

from shortbars.calls import GIVEN, TOLD, WORD, leads
from shortbars.errors import BadPaper
from shortbars.kinds import is_number_below
from shortbars.linerows import order_by_row, rows_of
from shortbars.lines import is_cover, pairs_out_of_turn, queue_calls
from shortbars.papers import word_of_paper
from shortbars.putting import are_twice, fewest_cover, is_early, is_empty_answer, is_taken, is_unput
from shortbars.putting import put_of, spans_of, take_flaws, takes_of, values_put
from shortbars.runs import explains

FORMS = (("order", 2), ("unput", 2), ("twice", 3), ("early", 3), ("turn", 5), ("full", 3))
SORTS = ("queue",)


def queue_paper(history):
    """A PAPER on whether the HISTORY is explained."""
    calls = queue_calls(history)
    flaws = queue_flaws(calls)
    if flaws:
        return flaws[0]
    return "order", _some_order(calls)


def queue_flaws(calls):
    """A list of PAPERS that bar an EXPLANATION; [] just if it is explained."""
    unmatched = [_with_put(calls, paper) for paper in take_flaws(calls)]
    if unmatched:
        return unmatched
    turns = [_turn_paper(calls, value, far) for value, far in pairs_out_of_turn(calls)]
    empties = [number for number, call in enumerate(calls) if is_empty_answer(call)]
    spans = spans_of(calls)
    covers = [("full", number, fewest_cover(spans, calls[number])) for number in empties]
    return turns + [paper for paper in covers if paper[2] is not None]


def _with_put(calls, paper):
    """A PAPER on what is not matched, as it stands for a queue: of "early" with the "put", too."""
    if paper[0] != "early":
        return paper
    return paper + (put_of(calls, calls[paper[1]][TOLD]),)


def _turn_paper(calls, value, far):
    """The PAPER on a VALUE out of turn with another one, each of them being taken once at most."""
    late = takes_of(calls, value) + [None]
    return "turn", put_of(calls, value), put_of(calls, far), takes_of(calls, far)[0], late[0]


def _some_order(calls):
    """An EXPLANATION of a HISTORY without flaws: some ROW of what is taken leads to one."""
    taken = [value for value in values_put(calls) if takes_of(calls, value)]
    for row in rows_of(calls, taken):
        order = order_by_row(calls, row)
        if order is not None:
            return order
    return None


def check_queue(history, paper):
    """The first word of a PAPER that holds; BadPaper of any other one."""
    calls = queue_calls(history)
    word = word_of_paper(paper, FORMS)
    if not _holds(calls, word, paper[1:]):
        raise BadPaper(word)
    return word


def _holds(calls, word, things):
    if word == "order":
        return explains(SORTS, calls, things[0])
    if not is_number_below(things[0], len(calls)):
        return False
    if word == "unput":
        return is_unput(calls, things[0])
    if word == "full":
        return is_empty_answer(calls[things[0]]) and is_cover(calls, things[0], things[1])
    if not is_number_below(things[1], len(calls)):
        return False
    if word == "twice":
        return are_twice(calls, things[0], things[1])
    if word == "early":
        return is_early(calls, things[0], things[1])
    return _is_turn(calls, things)


def _is_turn(calls, things):
    first, second, early, late = things
    if calls[first][WORD] != "put" or calls[second][WORD] != "put" or not leads(calls[first], calls[second]):
        return False
    if not is_number_below(early, len(calls)) or not is_taken(calls, early, calls[second][GIVEN]):
        return False
    if late is None:
        return not takes_of(calls, calls[first][GIVEN])
    if not is_number_below(late, len(calls)) or not is_taken(calls, late, calls[first][GIVEN]):
        return False
    return leads(calls[early], calls[late])
