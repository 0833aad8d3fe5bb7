"""What the document says of logs, straight from its words, for the tests to compare with."""

from oracle import act, first_state


def rows(log):
    """All rows, ascending."""
    sorts, hands = log
    found = []

    def grow(row, places, states):
        if all(place == len(hand) for place, hand in zip(places, hands)):
            found.append(row)
        for hand, place in enumerate(places):
            if place < len(hands[hand]):
                thing, word, given, told = hands[hand][place]
                behind = [list(state) for state in states]
                if act(sorts[thing], behind[thing], word, given) == (True, told):
                    grow(row + ((hand, place),), places[:hand] + [place + 1] + places[hand + 1:], behind)

    grow((), [0] * len(hands), [first_state(sort) for sort in sorts])
    return found


def turns(log):
    """All turns of the steps that keep to the hands, whatever is told."""
    found = []

    def grow(row, places):
        left = [hand for hand, place in enumerate(places) if place < len(log[1][hand])]
        if not left:
            found.append(row)
        for hand in left:
            grow(row + ((hand, places[hand]),), places[:hand] + [places[hand] + 1] + places[hand + 1:])

    grow((), [0] * len(log[1]))
    return found


def of_thing(log, thing):
    return (log[0][thing],), tuple(tuple((0,) + step[1:] for step in hand if step[0] == thing) for hand in log[1])
