"""WEBS of small HISTORIES: which STANDINGS can go on to an EXPLANATION, and in how many ways."""

from shortbars.calls import TOLD, leads
from shortbars.runs import first_states, step


def first_standing(sorts):
    """The STANDING of things of these SORTS when nothing is put."""
    return (), first_states(sorts)


def next_standings(sorts, calls, standing):
    """The list of pairs of the number of a CALL that can be put next, ascending, and the STANDING that comes then."""
    lot, states = standing
    left = [number for number in range(len(calls)) if number not in lot]
    found = []
    for number in left:
        goes, told, behind = step(sorts, states, calls[number])
        if goes and told == calls[number][TOLD] and not any(leads(calls[other], calls[number]) for other in left):
            found.append((number, (tuple(sorted(lot + (number,))), behind)))
    return found


def ways_of(sorts, calls):
    """The dict of the COUNTS of all live STANDINGS."""
    ways = {}
    _count_ways(sorts, calls, first_standing(sorts), ways)
    return {standing: many for standing, many in ways.items() if many > 0}


def _count_ways(sorts, calls, standing, ways):
    """In how many ways a STANDING can go on to an EXPLANATION; ways keeps what is found, 0 too."""
    if standing in ways:
        return ways[standing]
    many = 1
    if len(standing[0]) < len(calls):
        many = sum([_count_ways(sorts, calls, behind, ways) for _, behind in next_standings(sorts, calls, standing)])
    ways[standing] = many
    return many


def live_steps(sorts, calls, ways, standing):
    """The list of next_standings that are live, by the dict of ways_of."""
    return [(number, behind) for number, behind in next_standings(sorts, calls, standing) if behind in ways]
