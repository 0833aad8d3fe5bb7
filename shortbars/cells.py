"""Cells: the KINS of what was written, the spans in which it surely stands, and what is at odds."""

from shortbars.calls import BEGIN, END, lone_calls, value_of
from shortbars.errors import BadValue
from shortbars.kinds import is_value


def cell_calls(history):
    """The CALLS of a HISTORY of one cell; BadHistory("sort") of others."""
    return lone_calls(history, ("cell",))


def kins_of(calls):
    """The dict of the KINS by their MARKS, in the turn of MARKS."""
    marks = [value_of(call) for call in calls]
    turn = sorted({mark for mark in marks if mark is not None})
    if None in marks:
        turn = [None] + turn
    return {mark: tuple([number for number, other in enumerate(marks) if other == mark]) for mark in turn}


def near_of(calls, kin):
    """The least END of a KIN."""
    return min([calls[number][END] for number in kin])


def _far(calls, kin):
    return max([calls[number][BEGIN] for number in kin])


def is_forced_by(calls, kins, mark, other):
    """Whether a MARK is forced ahead of another one."""
    return mark is None or near_of(calls, kins[mark]) < _far(calls, kins[other])


def are_at_odds(calls, kins, mark, other):
    """Whether two MARKS are at odds."""
    return is_forced_by(calls, kins, mark, other) and is_forced_by(calls, kins, other, mark)


def odds_of(calls, kins):
    """The list of all pairs of MARKS at odds, in the turn of MARKS."""
    marks = list(kins)
    return [(mark, other) for at, mark in enumerate(marks) for other in marks[at + 1:]
            if are_at_odds(calls, kins, mark, other)]


def is_mark(kins, value):
    """Whether any value is one of the MARKS with these KINS."""
    return (value is None or is_value(value)) and value in kins


def marks_of(history):
    """The tuple of all MARKS."""
    return tuple(kins_of(cell_calls(history)))


def kin_of(history, value):
    """The KIN of a MARK."""
    kins = kins_of(cell_calls(history))
    if not is_mark(kins, value):
        raise BadValue(value)
    return kins[value]


def span_of(history, value):
    """The SURE SPAN of a MARK, None of a short one."""
    calls = cell_calls(history)
    kins = kins_of(calls)
    if not is_mark(kins, value):
        raise BadValue(value)
    far = _far(calls, kins[value])
    if value is None:
        return None, far
    near = near_of(calls, kins[value])
    if near < far:
        return near, far
    return None


def is_forced(history, value, far):
    """Whether the MARK value is forced ahead of the MARK far."""
    calls = cell_calls(history)
    kins = kins_of(calls)
    if not is_mark(kins, value):
        raise BadValue(value)
    if not is_mark(kins, far) or far == value:
        raise BadValue(far)
    return is_forced_by(calls, kins, value, far)


def odds_in(history):
    """The tuple of all pairs of MARKS at odds, in the turn of MARKS."""
    calls = cell_calls(history)
    return tuple(odds_of(calls, kins_of(calls)))
