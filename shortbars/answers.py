"""What one CALL more could be told, and HISTORIES that keep more turns than others do."""

from shortbars.calls import BEGIN, GIVEN, MOST_CALLS, THING, WORD, give_twice, is_asking, moments_of, pairs_ahead
from shortbars.calls import plain_call, plain_history
from shortbars.errors import BadQuestion, BadTold, TooMany
from shortbars.kinds import can_be_told, is_value
from shortbars.search import first_explanation

MOST_ANSWERED = 6
PARTS_OF_QUESTION = 5


def with_answer(history, question, told):
    """The HISTORY with this CALL, in its turn by BEGIN, which told this."""
    sorts, calls = plain_history(history)
    _need_question(sorts, calls, question)
    if len(calls) == MOST_CALLS:
        raise TooMany(MOST_CALLS)
    if not can_be_told(question[WORD], told):
        raise BadTold(told)
    return sorts, _with_call(calls, plain_call(question + (told,)))


def _need_question(sorts, calls, thing):
    if not _is_question(sorts, calls, thing):
        raise BadQuestion(thing)


def _is_question(sorts, calls, thing):
    if not isinstance(thing, tuple) or len(thing) != PARTS_OF_QUESTION or not is_asking(sorts, thing[THING:]):
        return False
    if not is_value(thing[0]) or not is_value(thing[1]) or thing[0] >= thing[1]:
        return False
    moments = moments_of(calls)
    if thing[0] in moments or thing[1] in moments:
        return False
    return not give_twice([call[THING:] for call in calls] + [thing[THING:] + (None,)])


def _with_call(calls, call):
    ahead = [other for other in calls if other[BEGIN] < call[BEGIN]]
    return tuple(ahead + [call] + list(calls[len(ahead):]))


def all_answers(history, question):
    """The ANSWERS to a QUESTION: the tuple of what could be told, None ahead."""
    sorts, calls = plain_history(history)
    _need_question(sorts, calls, question)
    if len(calls) > MOST_ANSWERED:
        raise TooMany(MOST_ANSWERED)
    asked = [(told, plain_call(question + (told,))) for told in perhaps_told(calls, question[THING], question[WORD])]
    return tuple([told for told, call in asked if first_explanation((sorts, _with_call(calls, call))) is not None])


def perhaps_told(calls, thing, word):
    """The list of all that a CALL of a thing with this WORD might tell beside these CALLS, None ahead."""
    if word == "has":
        return [0, 1]
    if word in ("count", "draw"):
        # No more is added, or drawn, than there can be CALLS.
        return list(range(MOST_CALLS + 1))
    if word in ("read", "take"):
        given = [call[GIVEN] for call in calls if call[THING] == thing and call[WORD] in ("write", "put")]
        return [None] + sorted(given)
    return [None]


def is_narrowed(history, other):
    """Whether the HISTORY is narrowed from the other one."""
    sorts, calls = plain_history(history)
    other_sorts, others = plain_history(other)
    if sorts != other_sorts or [call[THING:] for call in calls] != [call[THING:] for call in others]:
        return False
    pairs = pairs_ahead(calls)
    return all(pair in pairs for pair in pairs_ahead(others))
