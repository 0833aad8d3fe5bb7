"""What the document says of counters, straight from its words, for the tests to compare with."""

from oracle import ahead


def counts(history):
    return [number for number, call in enumerate(history[1]) if call[3] == "count"]


def adds(history):
    return [number for number, call in enumerate(history[1]) if call[3] == "add"]


def told(history, gate):
    return 0 if gate is None else history[1][gate][5]


def surely(history, gate, far):
    calls = history[1]
    found = [number for number in adds(history) if ahead(calls[number], calls[far])]
    return tuple(number for number in found if gate is None or ahead(calls[gate], calls[number]))


def perhaps(history, gate, far):
    calls = history[1]
    found = [number for number in adds(history) if not ahead(calls[far], calls[number])]
    return tuple(number for number in found if gate is None or not ahead(calls[number], calls[gate]))


def holds(history, word, gate, far):
    """Whether a paper with these two things, whatever they are, is as told."""
    for thing in (gate, far):
        if thing is not None and not (type(thing) is int and thing in counts(history)):
            return False
    if far is None or gate == far:
        return False
    rise = told(history, far) - told(history, gate)
    if word == "back":
        return gate is not None and ahead(history[1][gate], history[1][far]) and rise < 0
    if rise < 0:
        return False
    if word == "many":
        return len(surely(history, gate, far)) > rise
    return len(perhaps(history, gate, far)) < rise


def bar(history, paper):
    word, gate, far = paper
    named = {far} if gate is None else {gate, far}
    if word == "many":
        named |= set(surely(history, gate, far))
    elif word == "few":
        named |= set(adds(history))
    return tuple(sorted(named))
