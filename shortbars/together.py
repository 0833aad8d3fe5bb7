"""Several things at once: EXPLANATIONS of each thing alone, and how they are laid together."""

from shortbars.calls import THING, history_of_thing, pairs_ahead, plain_history
from shortbars.errors import BadOrder, BadParts
from shortbars.lineups import first_lineup, wants_of
from shortbars.runs import explains
from shortbars.search import first_explanation


def is_each_explained(history):
    """Whether the HISTORY of each thing is explained; TooMany of more than 7 CALLS of one."""
    return first_parts(history) is not None


def first_parts(history):
    """The tuple of the least EXPLANATION of each thing's HISTORY, None if some thing has none.

    TooMany of more than 7 CALLS of a thing.
    """
    parts = tuple([first_explanation(alone) for alone in _each_alone(history)])
    if None in parts:
        return None
    return parts


def _each_alone(history):
    """The list of the HISTORIES of all things."""
    sorts = plain_history(history)[0]
    return [history_of_thing(history, thing) for thing in range(len(sorts))]


def laid(history, parts):
    """The EXPLANATION laid together of these PARTS."""
    calls = plain_history(history)[1]
    each = _each_alone(history)
    if not _are_parts(each, parts):
        raise BadParts(parts)
    pairs = pairs_ahead(calls)
    for thing, part in enumerate(parts):
        numbers = _numbers_of(calls, thing)
        row = [numbers[number] for number in part]
        pairs = pairs + list(zip(row, row[1:]))
    return first_lineup(wants_of(len(calls), pairs))


def _are_parts(each, value):
    """Whether any value is a tuple of an EXPLANATION of each of these HISTORIES."""
    if not isinstance(value, tuple) or len(value) != len(each):
        return False
    return all(explains(sorts, calls, part) for (sorts, calls), part in zip(each, value))


def _numbers_of(calls, thing):
    """The ascending list of the numbers of the CALLS of a thing."""
    return [number for number, call in enumerate(calls) if call[THING] == thing]


def parts_by(history, order):
    """The PARTS that an EXPLANATION of the HISTORY has."""
    sorts, calls = plain_history(history)
    if not explains(sorts, calls, order):
        raise BadOrder(order)
    return tuple([_part_of(_numbers_of(calls, thing), order) for thing in range(len(sorts))])


def _part_of(numbers, order):
    """In which turn these numbers stand in an ORDER, each told by its place among them."""
    places = {number: place for place, number in enumerate(numbers)}
    return tuple([places[number] for number in order if number in places])
