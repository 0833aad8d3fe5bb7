"""What the document says of rooms, straight from its words, for the tests to compare with."""

from oracle import ahead


def size(history):
    return history[0][0][1]


def moments(history):
    return sorted(moment for call in history[1] for moment in call[:2])


def values(history):
    return sorted({call[4] for call in history[1]})


def call_of(history, word, value):
    found = [call for call in history[1] if call[3] == word and call[4] == value]
    return found[0] if found else None


def crowd(history, moment):
    found = []
    for value in values(history):
        enter, leave = call_of(history, "enter", value), call_of(history, "leave", value)
        if enter is not None and enter[1] <= moment and (leave is None or leave[0] > moment):
            found.append(value)
    return tuple(found)


def is_free(history, value):
    enter, leave = call_of(history, "enter", value), call_of(history, "leave", value)
    return enter is not None and leave is not None and leave[0] < enter[1]


def free(history):
    return tuple(value for value in values(history) if is_free(history, value))


def window(history, value):
    enter, leave = call_of(history, "enter", value), call_of(history, "leave", value)
    return tuple(moment for moment in moments(history)
                 if moment >= enter[0] and moment >= leave[0] and moment < enter[1] and moment < leave[1])


def is_early(history, leave):
    enter = call_of(history, "enter", leave[4])
    return leave[3] == "leave" and enter is not None and ahead(leave, enter)


def bar(history, paper):
    """The numbers of the calls of the bar of a paper that holds."""
    word, thing = paper
    calls = history[1]
    if word == "strange":
        return (thing,)
    if word == "early":
        named = {calls[thing][4]}
    elif word == "crowd":
        named = set(crowd(history, thing))
    else:
        named = {thing}.union(*[crowd(history, moment) for moment in window(history, thing)])
    return tuple(number for number, call in enumerate(calls) if call[4] in named)


def as_room(history, many):
    """The calls in a room of so many, perhaps more than there are sorts for."""
    return (("room", many),), history[1]
