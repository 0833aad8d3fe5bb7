"""Whether a HISTORY of tickets is explained: PAPERS that tell, and their check."""

from shortbars.calls import TOLD, leads, lone_calls
from shortbars.errors import BadPaper
from shortbars.kinds import is_number_below
from shortbars.papers import word_of_paper
from shortbars.runs import explains

FORMS = (("order", 2), ("gap", 2), ("twice", 3), ("back", 3))
SORTS = ("tickets",)


def ticket_paper(history):
    """A PAPER on whether the HISTORY is explained."""
    calls = lone_calls(history, SORTS)
    flaws = ticket_flaws(calls)
    if flaws:
        return flaws[0]
    return "order", tuple(sorted(range(len(calls)), key=lambda number: calls[number][TOLD]))


def ticket_flaws(calls):
    """The list of all PAPERS that bar an EXPLANATION; [] just if it is explained."""
    numbers = range(len(calls))
    pairs = [(number, far) for number in numbers for far in numbers]
    twice = [("twice", number, far) for number, far in pairs if _are_twice(calls, number, far)]
    gaps = [("gap", value) for value in numbers if _is_gap(calls, value)]
    return twice + gaps + [("back", number, far) for number, far in pairs if _are_back(calls, number, far)]


def _are_twice(calls, number, far):
    return number < far and calls[number][TOLD] == calls[far][TOLD]


def _is_gap(calls, value):
    return value not in [call[TOLD] for call in calls]


def _are_back(calls, number, far):
    return leads(calls[number], calls[far]) and calls[number][TOLD] > calls[far][TOLD]


def check_tickets(history, paper):
    """The first word of a PAPER that holds; BadPaper of any other one."""
    calls = lone_calls(history, SORTS)
    word = word_of_paper(paper, FORMS)
    if not _holds(calls, word, paper[1:]):
        raise BadPaper(word)
    return word


def _holds(calls, word, things):
    if word == "order":
        return explains(SORTS, calls, things[0])
    # A VALUE of a gap is less than how many CALLS there are, as the numbers of these are.
    if not all(is_number_below(thing, len(calls)) for thing in things):
        return False
    if word == "gap":
        return _is_gap(calls, things[0])
    if word == "twice":
        return _are_twice(calls, things[0], things[1])
    return _are_back(calls, things[0], things[1])
