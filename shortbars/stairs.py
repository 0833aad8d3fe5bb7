"""Heads by rank: between which moments VALUES go in and out if the lesser ones have their place first."""

from shortbars.calls import BEGIN, END, moments_of
from shortbars.errors import BadNumber, BadValue, BadValues
from shortbars.kinds import are_values, is_number_below, is_value
from shortbars.putting import matched_calls, put_of, takes_of, values_put


def gaps_of(history, number):
    """The ascending tuple of the GAPS of a CALL."""
    calls = matched_calls(history, ("stack", "heads"))
    if not is_number_below(number, len(calls)):
        raise BadNumber(number)
    return tuple(gaps_of_call(calls, calls[number]))


def gaps_of_call(calls, call):
    """The ascending list of the GAPS of one of these CALLS."""
    return [gap for gap in moments_of(calls) if call[BEGIN] <= gap < call[END]]


def stair_of(history, value):
    """The STAIR of a VALUE, None if it has none."""
    return _stairs_for(heads_calls(history), value).get(value)


def heads_calls(history):
    """The CALLS of a matched HISTORY of heads; BadHistory of others."""
    return matched_calls(history, ("heads",))


def _stairs_for(calls, value):
    """All STAIRS; BadValue of what is no VALUE with a "put"."""
    if not is_value(value) or value not in values_put(calls):
        raise BadValue(value)
    return stairs_among(calls, values_put(calls))


def rest_of_value(history, value):
    """The ascending tuple of the GAPS of the REST of a VALUE, () if it has no STAIR."""
    calls = heads_calls(history)
    stairs = _stairs_for(calls, value)
    if value not in stairs:
        return ()
    return tuple(rest_by(calls, stairs[value]))


def rest_by(calls, stair):
    """The ascending list of the GAPS of the REST of a VALUE with this STAIR."""
    put, take = stair
    # Behind a greatest moment there is no GAP.
    return [gap for gap in moments_of(calls)[:-1] if gap > put and (take is None or gap < take)]


def late_value(history):
    """The VALUE that is late, None if none is."""
    calls = heads_calls(history)
    return late_among(calls, values_put(calls))


def late_among(calls, values):
    """Of these VALUES, ascending, the one that is late if there are no others, None if none is."""
    stairs = stairs_among(calls, values)
    if len(stairs) == len(values):
        return None
    return values[len(stairs)]


def stairs_of(history, some):
    """The tuple of the STAIRS of these VALUES if there are no others, as far as there are."""
    calls = heads_calls(history)
    if not are_put(calls, some):
        raise BadValues(some)
    return tuple(stairs_among(calls, some).values())


def are_put(calls, value):
    """Whether any value is an ascending tuple, perhaps (), of VALUES with "puts"."""
    return are_values(value) and all(part in values_put(calls) for part in value)


def stairs_among(calls, values):
    """The dict of the STAIRS of these VALUES, ascending, if there are no others, up to the one that is late.

    The GAPS are those of all CALLS, which are matched.
    """
    stairs = {}
    filled = {}
    for value in values:
        stair = _stair_beside(calls, filled, value)
        if stair is None:
            break
        stairs[value] = stair
        for gap in rest_by(calls, stair):
            filled[gap] = True
    return stairs


def _stair_beside(calls, filled, value):
    """The STAIR of a VALUE, the GAPS that are filled being in a REST of lesser ones; None if it is late."""
    put = calls[put_of(calls, value)]
    puts = gaps_of_call(calls, put)
    takes = takes_of(calls, value)
    if not takes:
        return puts[-1], None
    for gap in gaps_of_call(calls, calls[takes[0]]):
        if gap >= put[BEGIN] and gap not in filled:
            return max([early for early in puts if early <= gap]), gap
    return None
