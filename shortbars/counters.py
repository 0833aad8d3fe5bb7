"""Counters: what is surely, and what perhaps, added between two counts, and whether it is explained."""

from shortbars.calls import END, TOLD, WORD, leads, lone_calls
from shortbars.errors import BadNumber, BadPaper
from shortbars.kinds import is_number_below
from shortbars.papers import word_of_paper
from shortbars.runs import explains

FORMS = (("order", 2), ("back", 3), ("many", 3), ("few", 3))
SORTS = ("counter",)


def counter_calls(history):
    """The CALLS of a HISTORY of one counter; BadHistory("sort") of others."""
    return lone_calls(history, SORTS)


def is_count(calls, thing):
    """Whether it is the number of a "count"."""
    return is_number_below(thing, len(calls)) and calls[thing][WORD] == "count"


def adds_of(calls):
    """The ascending list of the numbers of all ADDS."""
    return [number for number, call in enumerate(calls) if call[WORD] == "add"]


def surely_between(history, gate, far):
    """The ascending tuple of the numbers of the ADDS surely between two GATES."""
    calls = counter_calls(history)
    _need_gates(calls, gate, far)
    return tuple(_surely(calls, gate, far))


def perhaps_between(history, gate, far):
    """The ascending tuple of the numbers of the ADDS perhaps between two GATES."""
    calls = counter_calls(history)
    _need_gates(calls, gate, far)
    return tuple(_perhaps(calls, gate, far))


def _need_gates(calls, gate, far):
    if gate is not None and not is_count(calls, gate):
        raise BadNumber(gate)
    if not is_count(calls, far) or far == gate:
        raise BadNumber(far)


def _surely(calls, gate, far):
    return [number for number in adds_of(calls)
            if leads(calls[number], calls[far]) and (gate is None or leads(calls[gate], calls[number]))]


def _perhaps(calls, gate, far):
    return [number for number in adds_of(calls)
            if not leads(calls[far], calls[number]) and (gate is None or not leads(calls[number], calls[gate]))]


def _rise(calls, gate, far):
    """How much greater the TOLD of a GATE is than that of the one ahead, perhaps below 0."""
    if gate is None:
        return calls[far][TOLD]
    return calls[far][TOLD] - calls[gate][TOLD]


def count_paper(history):
    """A PAPER on whether the HISTORY is explained."""
    calls = counter_calls(history)
    flaws = count_flaws(calls)
    if flaws:
        return flaws[0]
    return "order", _order_of(calls)


def count_flaws(calls):
    """The list of all PAPERS that bar an EXPLANATION; [] just if it is explained."""
    counts = [number for number in range(len(calls)) if is_count(calls, number)]
    pairs = [(gate, far) for gate in [None] + counts for far in counts if gate != far]
    return [(word, gate, far) for word in ("back", "many", "few") for gate, far in pairs
            if _is_flaw(calls, word, gate, far)]


def _is_flaw(calls, word, gate, far):
    """Whether two unlike GATES are as told by a PAPER with this word."""
    rise = _rise(calls, gate, far)
    if word == "back":
        return gate is not None and leads(calls[gate], calls[far]) and rise < 0
    if rise < 0:
        return False
    if word == "many":
        return len(_surely(calls, gate, far)) > rise
    return len(_perhaps(calls, gate, far)) < rise


def _order_of(calls):
    """An EXPLANATION of CALLS without flaws.

    Each "count" stands as soon as it can and tells its TOLD. If there is none to put, that "add"
    comes which ends first: all of them do the same, and this one keeps the fewest others waiting.
    """
    order = []
    added = 0
    while len(order) < len(calls):
        left = [number for number in range(len(calls)) if number not in order]
        ready = [number for number in left if not any(leads(calls[other], calls[number]) for other in left)]
        due = [number for number in ready if calls[number][WORD] == "count" and calls[number][TOLD] == added]
        if due:
            order.append(due[0])
            continue
        adds = [number for number in ready if calls[number][WORD] == "add"]
        order.append(min(adds, key=lambda add: calls[add][END]))
        added += 1
    return tuple(order)


def check_count(history, paper):
    """The first word of a PAPER that holds; BadPaper of any other one."""
    calls = counter_calls(history)
    word = word_of_paper(paper, FORMS)
    if not _holds(calls, word, paper[1:]):
        raise BadPaper(word)
    return word


def _holds(calls, word, things):
    if word == "order":
        return explains(SORTS, calls, things[0])
    gate, far = things
    if not is_count(calls, far) or (gate is not None and not is_count(calls, gate)):
        return False
    return gate != far and _is_flaw(calls, word, gate, far)


def count_bar(history, paper):
    """The BAR of a PAPER that holds, and is none with an "order"; BadPaper of any other one."""
    word = check_count(history, paper)
    if word == "order":
        raise BadPaper("order")
    calls = counter_calls(history)
    gate, far = paper[1:]
    numbers = [number for number in (gate, far) if number is not None]
    if word == "many":
        numbers = numbers + _surely(calls, gate, far)
    if word == "few":
        numbers = numbers + adds_of(calls)
    return tuple([int(number) for number in sorted(numbers)])
