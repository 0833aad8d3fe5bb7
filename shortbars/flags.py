"""Sets: from when to when a VALUE is surely in, and whether it is explained."""

from shortbars.calls import BEGIN, END, GIVEN, TOLD, WORD, leads, lone_calls
from shortbars.errors import BadPaper, BadValue
from shortbars.kinds import is_number_below, is_value
from shortbars.papers import word_of_paper
from shortbars.runs import explains

FORMS = (("order", 2), ("strange", 2), ("turn", 3), ("shut", 4))
SORTS = ("set",)


def set_calls(history):
    """The CALLS of a HISTORY of one set; BadHistory("sort") of others."""
    return lone_calls(history, SORTS)


def _find(calls, word, value):
    """The CALL of this WORD with this VALUE, None if there is none; not for "has"."""
    for call in calls:
        if call[WORD] == word and call[GIVEN] == value:
            return call
    return None


def _found_in(call):
    """Whether it is a "has" that told 1."""
    return call[WORD] == "has" and call[TOLD] == 1


def _wants_in(call):
    """Whether its VALUE has to be in: it is a "drop", or a "has" that told 1."""
    return call[WORD] == "drop" or _found_in(call)


def _joined_values(calls):
    """The ascending list of all VALUES with a "join"."""
    return sorted([call[GIVEN] for call in calls if call[WORD] == "join"])


def in_and_out(history, some):
    """The pair of IN and OUT of a VALUE with a "join"."""
    calls = set_calls(history)
    if not is_value(some) or some not in _joined_values(calls):
        raise BadValue(some)
    return _in_and_out_of(calls, some)


def _in_and_out_of(calls, value):
    needs = [call for call in calls if call[GIVEN] == value and _wants_in(call)]
    inside = min([call[END] for call in needs + [_find(calls, "join", value)]])
    if _find(calls, "drop", value) is None:
        return inside, None
    return inside, max([call[BEGIN] for call in needs])


def fleeting_values(history):
    """The ascending tuple of all VALUES that are fleeting."""
    calls = set_calls(history)
    return tuple([value for value in _joined_values(calls) if _is_fleeting(calls, value)])


def _is_fleeting(calls, value):
    inside, out = _in_and_out_of(calls, value)
    return out is not None and out < inside


def flag_paper(history):
    """A PAPER on whether the HISTORY is explained."""
    calls = set_calls(history)
    flaws = flag_flaws(calls)
    if flaws:
        return flaws[0]
    places = [_place_of(calls, call) for call in calls]
    return "order", tuple(sorted(range(len(calls)), key=lambda at: places[at]))


def flag_flaws(calls):
    """The list of all PAPERS that bar an EXPLANATION; [] just if it is explained."""
    numbers = range(len(calls))
    strange = [("strange", number) for number in numbers if _is_strange(calls, number)]
    turns = [("turn", number, far) for number in numbers for far in numbers if _are_turned(calls, number, far)]
    shut = [("shut", number, far, last) for number in numbers for far in numbers
            for last in [None] + list(numbers) if _is_shut(calls, number, far, last)]
    return strange + turns + shut


def _is_strange(calls, number):
    """Whether it wants a VALUE in that has no "join"."""
    return _wants_in(calls[number]) and _find(calls, "join", calls[number][GIVEN]) is None


def _are_turned(calls, number, far):
    """Whether the first one is ahead of the other one, of the same VALUE, and cannot stand ahead of it."""
    call = calls[number]
    other = calls[far]
    if call[GIVEN] != other[GIVEN] or not leads(call, other):
        return False
    if other[WORD] == "join":
        return _wants_in(call)
    return call[WORD] == "drop" and _found_in(other)


def _is_shut(calls, number, far, last):
    """Whether the first one told 0 of a VALUE that is surely in between the other ones, the last perhaps None."""
    call = calls[number]
    first = calls[far]
    if call[WORD] != "has" or call[TOLD] != 0 or _find(calls, "join", call[GIVEN]) is None:
        return False
    if first[GIVEN] != call[GIVEN] or not leads(first, call) or not (first[WORD] == "join" or _found_in(first)):
        return False
    stays = _find(calls, "drop", call[GIVEN]) is None
    # What stays in is in behind as well, so no last one is named of it, and one of all others.
    if stays or last is None:
        return stays and last is None
    return calls[last][GIVEN] == call[GIVEN] and leads(call, calls[last]) and _wants_in(calls[last])


def _place_of(calls, call):
    """Where a CALL stands in an EXPLANATION, there being no flaws: a pair (a moment, its turn there).

    No moment is that of two CALLS, so it is by the turn alone that those at the same one stand right.
    """
    join = _find(calls, "join", call[GIVEN])
    if join is None:
        return call[BEGIN], 0
    begin, end = _in_and_out_of(calls, call[GIVEN])
    if end is not None and end < begin:
        # All that wants a fleeting VALUE in stands at one moment.
        begin = end = max(end, join[BEGIN])
    if call[WORD] == "join":
        return begin, 0
    if call[WORD] == "drop":
        return end, 2
    if _found_in(call):
        return max(begin, call[BEGIN]), 1
    if call[BEGIN] < begin:
        return call[BEGIN], 0
    return max(end, call[BEGIN]), 3


def check_flags(history, paper):
    """The first word of a PAPER that holds; BadPaper of any other one."""
    calls = set_calls(history)
    word = word_of_paper(paper, FORMS)
    if not _holds(calls, word, paper[1:]):
        raise BadPaper(word)
    return word


def _holds(calls, word, things):
    if word == "order":
        return explains(SORTS, calls, things[0])
    if not all(is_number_below(thing, len(calls)) for thing in things[:2]):
        return False
    if word == "strange":
        return _is_strange(calls, things[0])
    if word == "turn":
        return _are_turned(calls, things[0], things[1])
    if things[2] is not None and not is_number_below(things[2], len(calls)):
        return False
    return _is_shut(calls, things[0], things[1], things[2])
