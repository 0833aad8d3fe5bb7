"""What is put and taken, in queues, stacks and heads alike: which CALLS belong to which VALUE."""

from shortbars.calls import BEGIN, END, GIVEN, TOLD, WORD, leads, lone_calls
from shortbars.errors import BadHistory
from shortbars.kinds import is_number_below


def put_of(calls, value):
    """The number of the "put" of a VALUE, None if there is none."""
    for number, call in enumerate(calls):
        if call[WORD] == "put" and call[GIVEN] == value:
            return number
    return None


def takes_of(calls, value):
    """The list of the numbers of all "takes" that TOLD this VALUE."""
    return [number for number, call in enumerate(calls) if call[WORD] == "take" and call[TOLD] == value]


def values_put(calls):
    """The ascending list of all VALUES with a "put"."""
    return sorted([call[GIVEN] for call in calls if call[WORD] == "put"])


def is_taken(calls, number, value):
    """Whether the CALL with this number is a "take" that TOLD this VALUE."""
    return calls[number][WORD] == "take" and calls[number][TOLD] == value


def is_empty_answer(call):
    """Whether it is a "take" that TOLD None."""
    return call[WORD] == "take" and call[TOLD] is None


def is_unput(calls, number):
    """Whether it is a "take" whose TOLD is a VALUE without a "put"."""
    told = calls[number][TOLD]
    return calls[number][WORD] == "take" and told is not None and put_of(calls, told) is None


def are_twice(calls, number, far):
    """Whether they are two "takes" with the same VALUE, the first number being the lesser one."""
    if number >= far or calls[number][WORD] != "take" or calls[number][TOLD] is None:
        return False
    return is_taken(calls, far, calls[number][TOLD])


def is_early(calls, number, far):
    """Whether the first one is a "take" that is ahead of the other one, the "put" of its VALUE."""
    if calls[far][WORD] != "put" or not is_taken(calls, number, calls[far][GIVEN]):
        return False
    return leads(calls[number], calls[far])


def take_flaws(calls):
    """The list of PAPERS of stacks and heads on what is not matched; [] just if all is."""
    numbers = range(len(calls))
    pairs = [(number, far) for number in numbers for far in numbers]
    unput = [("unput", number) for number in numbers if is_unput(calls, number)]
    twice = [("twice", number, far) for number, far in pairs if are_twice(calls, number, far)]
    early = [("early", number) for number, far in pairs if is_early(calls, number, far)]
    return unput + twice + early


def is_take_flaw(calls, word, things):
    """Whether what stands behind one of the words of take_flaws, any things, is as told."""
    if not all(is_number_below(thing, len(calls)) for thing in things):
        return False
    if word == "unput":
        return is_unput(calls, things[0])
    if word == "twice":
        return are_twice(calls, things[0], things[1])
    return any(is_early(calls, things[0], far) for far in range(len(calls)))


def is_matched(calls):
    """Whether each VALUE that is taken has one "put", and one "take", which is not ahead of it."""
    return not take_flaws(calls)


def matched_calls(history, names):
    """The CALLS of a matched HISTORY of one thing that has one of these SORTS; BadHistory of others."""
    calls = lone_calls(history, names)
    if not is_matched(calls):
        raise BadHistory("match")
    return calls


def spans_of(calls):
    """The dict of the spans of the VALUES with a "put", ascending, in which these are surely in.

    A span is a pair (FROM, TO), TO None if the VALUE is never taken; of several "takes" the first
    one counts. VALUES without a span are left out.
    """
    spans = {}
    for value in values_put(calls):
        begin = calls[put_of(calls, value)][END]
        takes = takes_of(calls, value)
        if not takes:
            spans[value] = (begin, None)
        elif begin < calls[takes[0]][BEGIN]:
            spans[value] = (begin, calls[takes[0]][BEGIN])
    return spans


def fewest_cover(spans, call):
    """As few VALUES as can be, in turn, whose spans leave no number of this CALL out; None if all do."""
    cover = ()
    reach = call[BEGIN]
    while reach is not None and reach < call[END]:
        value = _furthest(spans, reach)
        if value is None:
            return None
        cover = cover + (value,)
        reach = spans[value][1]
    return cover


def _furthest(spans, reach):
    """Of the VALUES whose spans begin ahead of reach the one that is in longest behind it, None if none is."""
    best = None
    far = reach
    for value, (begin, end) in spans.items():
        if begin >= reach:
            continue
        if end is None:
            return value
        if end > far:
            best = value
            far = end
    return best
