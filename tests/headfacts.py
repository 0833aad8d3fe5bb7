"""What the document says of heads by rank, straight from its words, for the tests to compare with."""

from queuefacts import put_of, takes_of, values_put


def moments(history):
    return sorted(moment for call in history[1] for moment in call[:2])


def gaps(history):
    return moments(history)[:-1]


def gaps_of(history, call):
    return tuple(gap for gap in gaps(history) if call[0] <= gap and moments(history)[moments(history).index(gap) + 1] <= call[1])


def stairs(history, values):
    """The stairs of these values, if there are no others, from the least one up; "late" of those without one."""
    found = {}
    for value in sorted(values):
        if "late" in found.values():
            found[value] = "late"
            continue
        put, takes = put_of(history, value), takes_of(history, value)
        if not takes:
            found[value] = (gaps_of(history, put)[-1], None)
            continue
        good = [gap for gap in gaps_of(history, takes[0]) if gap >= put[0]
                and not any(gap in rest(history, found[lesser]) for lesser in found)]
        if not good:
            found[value] = "late"
            continue
        found[value] = ([gap for gap in gaps_of(history, put) if gap <= good[0]][-1], good[0])
    return found


def rest(history, stair):
    if stair == "late":
        return ()
    return tuple(gap for gap in gaps(history) if gap > stair[0] and (stair[1] is None or gap < stair[1]))


def late(history, values):
    """The one of these values that is late, None if none is."""
    found = stairs(history, values)
    return min((value for value in found if found[value] == "late"), default=None)


def is_covered(history, call, values):
    """Whether each gap of a call is in the rest of one of these values, none being late."""
    found = stairs(history, values)
    return all(any(gap in rest(history, found[value]) for value in values) for gap in gaps_of(history, call))


def all_put(history):
    return tuple(values_put(history))
