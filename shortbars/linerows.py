"""ROWS of a queue: in which turns its VALUES can be put, and the EXPLANATIONS that come of these."""

from shortbars.calls import TOLD, WORD, pairs_ahead
from shortbars.errors import BadHistory, BadRow
from shortbars.kinds import is_value
from shortbars.lines import is_before, queue_calls
from shortbars.lineups import all_lineups, next_ones, wants_of
from shortbars.putting import is_empty_answer, is_matched, put_of, takes_of, values_put


def all_rows(history):
    """The ascending tuple of all ROWS."""
    calls = calls_of_rows(history)
    return tuple(rows_of(calls, values_put(calls)))


def calls_of_rows(history):
    """The CALLS of a HISTORY of one queue that has ROWS; BadHistory of others."""
    calls = queue_calls(history)
    if not is_matched(calls) or [call for call in calls if is_empty_answer(call)]:
        raise BadHistory("rows")
    return calls


def rows_of(calls, values):
    """The list of all turns of these VALUES by which none stands behind one that it is before."""
    pairs = [(at, behind) for at, value in enumerate(values) for behind, far in enumerate(values)
             if at != behind and is_before(calls, value, far)]
    return all_lineups(values, wants_of(len(values), pairs))


def order_of_row(history, row):
    """An EXPLANATION that puts the VALUES in the turn of this ROW."""
    calls = calls_of_rows(history)
    if not _is_row(calls, row):
        raise BadRow(row)
    return order_by_row(calls, row)


def _is_row(calls, value):
    if not isinstance(value, tuple) or not all(is_value(part) for part in value):
        return False
    if sorted(value) != values_put(calls):
        return False
    return not any(is_before(calls, far, part) for at, part in enumerate(value) for far in value[at + 1:])


def order_by_row(calls, row):
    """An EXPLANATION that puts these VALUES first, in this turn, None if there is none.

    The CALLS are matched; those with VALUES not in the row are never taken.
    """
    pairs = pairs_ahead(calls) + _row_pairs(calls, row)
    return _rest_of_order(calls, wants_of(len(calls), pairs), 0, {})


def _row_pairs(calls, row):
    """Which CALLS have to stand ahead of which ones, so that the VALUES go in and out in this turn."""
    puts = [put_of(calls, value) for value in row]
    takes = [takes_of(calls, value)[0] for value in row if takes_of(calls, value)]
    pairs = list(zip(puts, puts[1:])) + list(zip(takes, takes[1:])) + list(zip(puts, takes))
    others = [put_of(calls, value) for value in values_put(calls) if value not in row]
    return pairs + [(put, other) for put in puts for other in others]


def _rest_of_order(calls, wants, done, barren):
    """The least turn of the CALLS not done that goes on from there, None if there is none."""
    if done == (1 << len(calls)) - 1:
        return ()
    if done in barren:
        return None
    for number in next_ones(wants, done):
        if is_empty_answer(calls[number]) and not _is_empty(calls, done):
            continue
        rest = _rest_of_order(calls, wants, done | (1 << number), barren)
        if rest is not None:
            return (number,) + rest
    barren[done] = True
    return None


def _is_empty(calls, done):
    """Whether as many VALUES are taken as are put by what is done."""
    goers = [call for number, call in enumerate(calls) if (done >> number) & 1 == 1]
    puts = [call for call in goers if call[WORD] == "put"]
    takes = [call for call in goers if call[WORD] == "take" and call[TOLD] is not None]
    return len(puts) == len(takes)
