"""What the document says of queues, straight from its words, for the tests to compare with."""

from itertools import permutations, product

from oracle import ahead


def values_put(history):
    return sorted(call[4] for call in history[1] if call[3] == "put")


def put_of(history, value):
    found = [call for call in history[1] if call[3] == "put" and call[4] == value]
    return found[0] if found else None


def takes_of(history, value):
    return [call for call in history[1] if call[3] == "take" and call[5] == value]


def sure_span(history, value):
    put, takes = put_of(history, value), takes_of(history, value)
    if not takes:
        return put[1], None
    return (put[1], takes[0][0]) if put[1] < takes[0][0] else None


def out_of_turn(history, value, far):
    takes, others = takes_of(history, value), takes_of(history, far)
    return ahead(put_of(history, value), put_of(history, far)) and others != [] \
        and (takes == [] or ahead(others[0], takes[0]))


def before(history, value, far):
    takes, others = takes_of(history, value), takes_of(history, far)
    put, other = put_of(history, value), put_of(history, far)
    if ahead(put, other):
        return True
    if takes and (ahead(takes[0], other) or (others and ahead(takes[0], others[0]))):
        return True
    return takes != [] and others == []


def is_cover(history, number, cover):
    call = history[1][number]
    if type(cover) is not tuple or not cover:
        return False
    if not all(type(value) is int and value in values_put(history) for value in cover):
        return False
    spans = [sure_span(history, value) for value in cover]
    if None in spans or not spans[0][0] < call[0]:
        return False
    for one, two in zip(spans, spans[1:]):
        if one[1] is None or not two[0] < one[1]:
            return False
    return spans[-1][1] is None or spans[-1][1] > call[1]


def fewest(history, number):
    """How many values the least covers have, None without any."""
    values = values_put(history)
    for many in range(1, len(values) + 1):
        if any(is_cover(history, number, cover) for cover in product(values, repeat=many)):
            return many
    return None


def has_rows(history):
    """Whether it is one that rows are told of."""
    for call in history[1]:
        if call[3] == "take":
            put = put_of(history, call[5])
            if call[5] is None or put is None or len(takes_of(history, call[5])) > 1 or ahead(call, put):
                return False
    return True


def rows(history):
    return tuple(row for row in permutations(values_put(history))
                 if not any(before(history, far, near) for at, near in enumerate(row) for far in row[at + 1:]))
