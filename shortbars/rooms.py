"""Rooms: who is surely in behind which moment, who comes and goes between two, and whether it is explained."""

from shortbars.calls import BEGIN, END, GIVEN, WORD, lone_calls, leads, moments_of, plain_history
from shortbars.errors import BadMoment, BadPaper, BadValue
from shortbars.kinds import is_number_below, is_value
from shortbars.papers import word_of_paper
from shortbars.runs import explains

FORMS = (("order", 2), ("strange", 2), ("early", 2), ("crowd", 2), ("covered", 2))


def room_calls(history):
    """The CALLS of a HISTORY of one room; BadHistory("sort") of others."""
    return lone_calls(history, ("room",))


def _size_of(history):
    """How many may be in."""
    return plain_history(history)[0][0][1]


def _number_of(calls, word, value):
    """The number of the CALL of this WORD with this VALUE, None if there is none."""
    for number, call in enumerate(calls):
        if call[WORD] == word and call[GIVEN] == value:
            return number
    return None


def _values_of(calls):
    """The ascending list of all VALUES of these CALLS."""
    return sorted({call[GIVEN] for call in calls})


def _is_strange(calls, number):
    """Whether it is a "leave" without an "enter" of its VALUE."""
    return calls[number][WORD] == "leave" and _number_of(calls, "enter", calls[number][GIVEN]) is None


def _is_early(calls, number):
    """Whether it is a "leave" that is ahead of the "enter" of its VALUE."""
    enter = _number_of(calls, "enter", calls[number][GIVEN])
    return calls[number][WORD] == "leave" and enter is not None and leads(calls[number], calls[enter])


def odd_leaves(calls):
    """The list of the PAPERS on each "leave" that no room, however large, can explain."""
    numbers = range(len(calls))
    strange = [("strange", number) for number in numbers if _is_strange(calls, number)]
    return strange + [("early", number) for number in numbers if _is_early(calls, number)]


def crowd_behind(history, moment):
    """The ascending tuple of the VALUES of the CROWD behind a moment of the HISTORY."""
    calls = room_calls(history)
    if not _is_moment(calls, moment):
        raise BadMoment(moment)
    return crowd_of(calls, moment)


def _is_moment(calls, thing):
    return is_value(thing) and thing in moments_of(calls)


def crowd_of(calls, moment):
    """What crowd_behind tells of these CALLS."""
    gone = [call[GIVEN] for call in calls if call[WORD] == "leave" and call[BEGIN] <= moment]
    came = [call[GIVEN] for call in calls if call[WORD] == "enter" and call[END] <= moment]
    return tuple(sorted([value for value in came if value not in gone]))


def free_values(history):
    """The ascending tuple of all VALUES that are free."""
    return tuple(free_of(room_calls(history)))


def free_of(calls):
    """The ascending list of the VALUES of these CALLS that are free."""
    return [value for value in _values_of(calls) if _is_free(calls, value)]


def _is_free(calls, value):
    enter = _number_of(calls, "enter", value)
    leave = _number_of(calls, "leave", value)
    return enter is not None and leave is not None and calls[leave][BEGIN] < calls[enter][END]


def window_of(history, some):
    """The ascending tuple of the moments of the WINDOW of a free VALUE."""
    calls = room_calls(history)
    if not is_value(some) or not _is_free(calls, some):
        raise BadValue(some)
    return tuple(window_in(calls, some))


def window_in(calls, value):
    """The ascending list of the moments of the WINDOW of a free VALUE."""
    both = [call for call in calls if call[GIVEN] == value]
    begin = max([call[BEGIN] for call in both])
    end = min([call[END] for call in both])
    return [moment for moment in moments_of(calls) if begin <= moment < end]


def room_paper(history):
    """A PAPER on whether the HISTORY is explained."""
    calls = room_calls(history)
    flaws = room_flaws(calls, _size_of(history))
    if flaws:
        return flaws[0]
    return "order", _order_of(calls, _size_of(history))


def room_flaws(calls, size):
    """A list of PAPERS that bar an EXPLANATION; [] just if it is explained."""
    odd = odd_leaves(calls)
    if odd:
        return odd
    crowds = [("crowd", moment) for moment in moments_of(calls) if len(crowd_of(calls, moment)) > size]
    return crowds + [("covered", value) for value in free_of(calls) if _is_covered(calls, size, value)]


def _is_covered(calls, size, value):
    """Whether a free VALUE has no moment in its WINDOW behind which there is room."""
    return all(len(crowd_of(calls, moment)) >= size for moment in window_in(calls, value))


def _order_of(calls, size):
    """An EXPLANATION of CALLS without flaws: each of them gets a moment, and a turn there.

    Who is not free comes in at the END of "enter" and goes out at the BEGIN of "leave"; who is free
    does both behind that.
    """
    places = []
    for number, call in enumerate(calls):
        if _is_free(calls, call[GIVEN]):
            # "enter" stands ahead of "leave" as strings do.
            places.append((_roomy_moment(calls, size, call[GIVEN]), 1, call[GIVEN], call[WORD], number))
        elif call[WORD] == "enter":
            places.append((call[END], 0, call[GIVEN], call[WORD], number))
        else:
            places.append((call[BEGIN], 0, call[GIVEN], call[WORD], number))
    return tuple([place[-1] for place in sorted(places)])


def _roomy_moment(calls, size, value):
    """The first moment of the WINDOW of a free VALUE behind which there is room."""
    return min([moment for moment in window_in(calls, value) if len(crowd_of(calls, moment)) < size])


def check_room(history, paper):
    """The first word of a PAPER that holds; BadPaper of any other one."""
    calls = room_calls(history)
    word = word_of_paper(paper, FORMS)
    if not _holds(calls, _size_of(history), word, paper[1]):
        raise BadPaper(word)
    return word


def _holds(calls, size, word, thing):
    if word == "order":
        return explains((("room", size),), calls, thing)
    if word == "crowd":
        return _is_moment(calls, thing) and len(crowd_of(calls, thing)) > size
    if word == "covered":
        if not is_value(thing) or not _is_free(calls, thing):
            return False
        return not _is_early(calls, _number_of(calls, "leave", thing)) and _is_covered(calls, size, thing)
    if not is_number_below(thing, len(calls)):
        return False
    if word == "strange":
        return _is_strange(calls, thing)
    return _is_early(calls, thing)


def room_bar(history, paper):
    """The BAR of a PAPER that holds, and is none with an "order"; BadPaper of any other one."""
    word = check_room(history, paper)
    if word == "order":
        raise BadPaper("order")
    calls = room_calls(history)
    if word == "strange":
        return (int(paper[1]),)
    if word == "early":
        values = (calls[paper[1]][GIVEN],)
    elif word == "crowd":
        values = crowd_of(calls, paper[1])
    else:
        values = _values_over(calls, paper[1])
    return tuple([number for number, call in enumerate(calls) if call[GIVEN] in values])


def _values_over(calls, value):
    """A free VALUE, and those of all CROWDS behind the moments of its WINDOW."""
    values = [value]
    for moment in window_in(calls, value):
        values.extend(crowd_of(calls, moment))
    return values
