"""Whether a HISTORY of one cell is explained: PAPERS that tell, and their check."""

from shortbars.calls import BEGIN, END, GIVEN, TOLD, WORD, leads, value_of
from shortbars.cells import cell_calls, is_forced_by, kins_of, odds_of
from shortbars.errors import BadPaper
from shortbars.kinds import is_number_below
from shortbars.lineups import first_lineup, wants_of
from shortbars.papers import word_of_paper
from shortbars.runs import explains

FORMS = (("order", 2), ("unwritten", 2), ("early", 3), ("old", 3), ("odds", 5))
SORTS = ("cell",)


def cell_paper(history):
    """A PAPER on whether the HISTORY is explained."""
    calls = cell_calls(history)
    flaws = cell_flaws(calls)
    if flaws:
        return flaws[0]
    kins = kins_of(calls)
    marks = list(kins)
    # Without flaws no two MARKS are at odds, and so there is a TURN.
    turn = [marks[at] for at in first_lineup(forced_wants(calls, kins))]
    return "order", order_by_turn(calls, kins, turn)


def forced_wants(calls, kins):
    """What the MARKS, by their numbers in their turn, want to stand ahead of them."""
    marks = list(kins)
    pairs = [(at, behind) for at, mark in enumerate(marks) for behind, other in enumerate(marks)
             if at != behind and is_forced_by(calls, kins, mark, other)]
    return wants_of(len(marks), pairs)


def order_by_turn(calls, kins, turn):
    """The KINS in this turn of MARKS, of each one the "write" first, then the "reads" by their numbers."""
    order = []
    for mark in turn:
        writes = [number for number in kins[mark] if calls[number][WORD] == "write"]
        reads = [number for number in kins[mark] if calls[number][WORD] == "read"]
        order = order + writes + reads
    return tuple(order)


def cell_flaws(calls):
    """The list of PAPERS that bar an EXPLANATION, one for each pair at odds; [] just if it is explained."""
    numbers = range(len(calls))
    unwritten = [("unwritten", number) for number in numbers if _is_unwritten(calls, number)]
    early = [("early", number, far) for number in numbers for far in numbers if _is_early(calls, number, far)]
    old = [("old", number, far) for number in numbers for far in numbers if _is_old(calls, number, far)]
    kins = kins_of(calls)
    # What is at odds with None is "old" already.
    odds = [_odds_paper(calls, kins[mark], kins[other]) for mark, other in odds_of(calls, kins) if mark is not None]
    return unwritten + early + old + odds


def _is_unwritten(calls, number):
    if calls[number][WORD] != "read" or calls[number][TOLD] is None:
        return False
    return not any(call[WORD] == "write" and call[GIVEN] == calls[number][TOLD] for call in calls)


def _is_early(calls, number, far):
    if calls[number][WORD] != "read" or calls[far][WORD] != "write":
        return False
    return calls[number][TOLD] == calls[far][GIVEN] and leads(calls[number], calls[far])


def _is_old(calls, number, far):
    if calls[far][WORD] != "read" or calls[far][TOLD] is not None:
        return False
    return value_of(calls[number]) is not None and leads(calls[number], calls[far])


def _odds_paper(calls, kin, other):
    return "odds", _soonest(calls, kin), _latest(calls, other), _soonest(calls, other), _latest(calls, kin)


def _soonest(calls, kin):
    return min(kin, key=lambda number: calls[number][END])


def _latest(calls, kin):
    return max(kin, key=lambda number: calls[number][BEGIN])


def _are_odds(calls, numbers):
    first, second, third, fourth = [calls[number] for number in numbers]
    if not leads(first, second) or not leads(third, fourth):
        return False
    value = value_of(first)
    other = value_of(second)
    if value is None or other is None or value == other:
        return False
    return value_of(fourth) == value and value_of(third) == other


def check_cell(history, paper):
    """The first word of a PAPER that holds; BadPaper of any other one."""
    calls = cell_calls(history)
    word = word_of_paper(paper, FORMS)
    if not _holds(calls, word, paper[1:]):
        raise BadPaper(word)
    return word


def _holds(calls, word, things):
    if word == "order":
        return explains(SORTS, calls, things[0])
    if not all(is_number_below(thing, len(calls)) for thing in things):
        return False
    if word == "unwritten":
        return _is_unwritten(calls, things[0])
    if word == "early":
        return _is_early(calls, things[0], things[1])
    if word == "old":
        return _is_old(calls, things[0], things[1])
    return _are_odds(calls, things)
