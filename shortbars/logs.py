"""LOGS: what hands did, one step behind the other in each, without moments, and whether it is told."""

from shortbars.calls import THING, TOLD, give_twice, is_step, leads, plain_history, plain_sort, plain_step
from shortbars.errors import BadHands, BadLog, BadThing, TooMany
from shortbars.kinds import are_numbers_below, are_sorts, is_number_below, is_whole
from shortbars.runs import first_states, step

MOST_HANDS = 4
MOST_STEPS = 8


def need_log(thing):
    """The LOG itself; BadLog of what is none."""
    if not _is_log(thing):
        raise BadLog(thing)
    return thing


def _is_log(thing):
    if not isinstance(thing, tuple) or len(thing) != 2 or not are_sorts(thing[0]) or not _are_rows(thing[1]):
        return False
    sorts, hands = thing
    steps = [part for hand in hands for part in hand]
    return len(steps) <= MOST_STEPS and all(is_step(sorts, part) for part in steps) and not give_twice(steps)


def _are_rows(thing):
    """Whether it is a tuple of as many tuples as there can be hands."""
    if not isinstance(thing, tuple) or not 1 <= len(thing) <= MOST_HANDS:
        return False
    return all(isinstance(hand, tuple) for hand in thing)


def _plain_log(log):
    """The LOG as plain tuples, strings and integers; BadLog of what is none."""
    sorts, hands = need_log(log)
    plain_hands = [tuple([plain_step(part) for part in hand]) for hand in hands]
    return tuple([plain_sort(sort) for sort in sorts]), tuple(plain_hands)


def _calls_of(hands):
    """The tuple of the hands with CALLS for STEPS, at whose moments nobody looks."""
    return tuple([tuple([(0, 1) + part for part in hand]) for hand in hands])


def log_of_thing(log, thing):
    """The LOG of a thing."""
    sorts, hands = _plain_log(log)
    if not is_number_below(thing, len(sorts)):
        raise BadThing(thing)
    kept = [tuple([(0,) + part[1:] for part in hand if part[0] == thing]) for hand in hands]
    return (sorts[thing],), tuple(kept)


def is_told(log):
    """Whether the LOG is told."""
    return first_row(log) is not None


def first_row(log):
    """The least ROW, None if there is none."""
    sorts, hands = _plain_log(log)
    return _least_rest(sorts, _calls_of(hands), (0,) * len(hands), first_states(sorts), {})


def _least_rest(sorts, hands, places, states, barren):
    """The least turn of the STEPS from these places on that goes on from these STATES, None if there is none."""
    if all(place == len(hand) for place, hand in zip(places, hands)):
        return ()
    if (places, states) in barren:
        return None
    for hand, place in enumerate(places):
        behind = _states_behind(sorts, hands, states, hand, place)
        if behind is None:
            continue
        rest = _least_rest(sorts, hands, _one_further(places, hand), behind, barren)
        if rest is not None:
            return ((hand, place),) + rest
    barren[(places, states)] = True
    return None


def _states_behind(sorts, hands, states, hand, place):
    """What the things are behind a STEP; None if it is not there, cannot go, or does not tell its TOLD."""
    if place == len(hands[hand]):
        return None
    call = hands[hand][place]
    goes, told, behind = step(sorts, states, call)
    if not goes or told != call[TOLD]:
        return None
    return behind


def _one_further(places, hand):
    return places[:hand] + (places[hand] + 1,) + places[hand + 1:]


def is_row(log, value):
    """Whether any value is a ROW of the LOG."""
    sorts, plain_hands = _plain_log(log)
    hands = _calls_of(plain_hands)
    if not isinstance(value, tuple) or len(value) != sum([len(hand) for hand in hands]):
        return False
    states = first_states(sorts)
    places = (0,) * len(hands)
    for pair in value:
        if not _is_next(places, pair):
            return False
        states = _states_behind(sorts, hands, states, pair[0], pair[1])
        if states is None:
            return False
        places = _one_further(places, pair[0])
    return True


def _is_next(places, thing):
    """Whether it is a pair of a hand and the number of its next STEP, which there may be none of."""
    if not isinstance(thing, tuple) or len(thing) != 2 or not is_number_below(thing[0], len(places)):
        return False
    return is_whole(thing[1]) and thing[1] == places[thing[0]]


def log_by(history, hands):
    """The LOG with these HANDS, tuples of numbers of CALLS, of a HISTORY; TooMany of more than 8 CALLS."""
    sorts, calls = plain_history(history)
    if not _deal(calls, hands):
        raise BadHands(hands)
    if len(calls) > MOST_STEPS:
        raise TooMany(MOST_STEPS)
    return sorts, tuple([tuple([calls[number][THING:] for number in hand]) for hand in hands])


def _deal(calls, value):
    """Whether any value has each number of these CALLS once, in each hand one behind the other."""
    if not _are_rows(value) or not all(are_numbers_below(hand, len(calls)) for hand in value):
        return False
    if sorted([number for hand in value for number in hand]) != list(range(len(calls))):
        return False
    return all(leads(calls[number], calls[far]) for hand in value for number, far in zip(hand, hand[1:]))
