"""What the document says of sets, straight from its words, for the tests to compare with."""

from oracle import ahead


def of_value(history, value, word, told=None):
    return [call for call in history[1] if call[3] == word and call[4] == value and call[5] == told]


def joined(history):
    return sorted(call[4] for call in history[1] if call[3] == "join")


def in_and_out(history, value):
    joins, drops = of_value(history, value, "join"), of_value(history, value, "drop")
    founds = of_value(history, value, "has", 1)
    inside = min(call[1] for call in joins + drops + founds)
    return inside, max(call[0] for call in drops + founds) if drops else None


def is_fleeting(history, value):
    inside, out = in_and_out(history, value)
    return out is not None and out < inside


def wants_in(call):
    return call[3] == "drop" or call[3:4] + call[5:] == ("has", 1)


def holds(history, paper):
    """Whether a paper that is none with an "order", whatever things stand in it, is as told."""
    calls = history[1]
    word, things = paper[0], paper[1:]
    for thing in things[:-1] if word == "shut" and things[-1] is None else things:
        if type(thing) is not int or not 0 <= thing < len(calls):
            return False
    row = [calls[thing] for thing in things if thing is not None]
    if any(call[4] != row[0][4] for call in row):
        return False
    has_join = row[0][4] in joined(history)
    if word == "strange":
        return wants_in(row[0]) and not has_join
    if word == "turn":
        if not ahead(row[0], row[1]):
            return False
        if row[0][3] == "drop" and row[1][3] == "has" and row[1][5] == 1:
            return True
        return wants_in(row[0]) and row[1][3] == "join"
    if row[0][3] != "has" or row[0][5] != 0 or not has_join or not ahead(row[1], row[0]):
        return False
    if row[1][3] != "join" and not (row[1][3] == "has" and row[1][5] == 1):
        return False
    if (things[-1] is None) != (of_value(history, row[0][4], "drop") == []):
        return False
    return things[-1] is None or (wants_in(row[2]) and ahead(row[0], row[2]))


def is_good(history):
    """What is told of explained histories, point by point."""
    for call in history[1]:
        value = call[4]
        if wants_in(call):
            joins = of_value(history, value, "join")
            if not joins or ahead(call, joins[0]):
                return False
            if any(ahead(drop, call) for drop in of_value(history, value, "drop")) and call[3] == "has":
                return False
        elif call[3] == "has" and value in joined(history) and not is_fleeting(history, value):
            inside, out = in_and_out(history, value)
            if call[0] > inside and (out is None or call[1] < out):
                return False
    return True


def lot(history, paper):
    """The numbers of the calls that a paper names, with the join and the drop of their value."""
    named = [thing for thing in paper[1:] if thing is not None]
    if paper[0] == "strange":
        return named
    value = history[1][named[0]][4]
    return sorted(set(named) | {number for number, call in enumerate(history[1])
                                if call[3] in ("join", "drop") and call[4] == value})
