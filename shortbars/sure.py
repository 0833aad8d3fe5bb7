"""Which CALLS stand ahead of which ones in every EXPLANATION."""

from shortbars.calls import plain_history
from shortbars.errors import BadNumber, BadPaper, NotExplained
from shortbars.kinds import is_number_below
from shortbars.papers import word_of_paper
from shortbars.runs import explains
from shortbars.search import need_few
from shortbars.webs import first_standing, live_steps, ways_of

FORMS = (("sure", 1), ("not", 2))


def is_surely_ahead(history, number, far):
    """Whether the CALL number is surely ahead of the CALL far."""
    calls = plain_history(history)[1]
    _need_two(calls, number, far)
    return _stays_ahead(_lots_of(_ways_in(history)), number, far)


def _need_two(calls, number, far):
    """BadNumber of what are not the numbers of two unlike CALLS."""
    if not is_number_below(number, len(calls)):
        raise BadNumber(number)
    if not is_number_below(far, len(calls)) or far == number:
        raise BadNumber(far)


def _ways_in(history):
    """The dict of the COUNTS of all live STANDINGS; TooMany, NotExplained where sure pairs are not told of."""
    sorts, calls = plain_history(history)
    need_few(calls)
    ways = ways_of(sorts, calls)
    if not ways:
        raise NotExplained(history)
    return ways


def _lots_of(ways):
    """The list of the LOTS of all live STANDINGS, each once."""
    return sorted({lot for lot, _ in ways})


def _stays_ahead(lots, number, far):
    """Whether none of these has far, and not number."""
    return not any(far in lot and number not in lot for lot in lots)


def sure_pairs(history):
    """The ascending tuple of all pairs (A, B) of which A is surely ahead of B."""
    lots = _lots_of(_ways_in(history))
    numbers = range(len(plain_history(history)[1]))
    return tuple([(number, far) for number in numbers for far in numbers
                  if number != far and _stays_ahead(lots, number, far)])


def sure_paper(history, number, far):
    """The PAPER on whether the CALL number is surely ahead of the CALL far."""
    sorts, calls = plain_history(history)
    _need_two(calls, number, far)
    ways = _ways_in(history)
    if _stays_ahead(_lots_of(ways), number, far):
        return ("sure",)
    return "not", _order_against(sorts, calls, ways, number, far)


def _order_against(sorts, calls, ways, number, far):
    """An EXPLANATION in which far stands ahead of number, there being one."""
    rows = [((), first_standing(sorts))]
    while rows:
        row, standing = rows.pop()
        if len(row) == len(calls):
            return row
        steps = live_steps(sorts, calls, ways, standing)
        # Where number would come next, and far is not put yet, the row is given up.
        rows.extend([(row + (at,), behind) for at, behind in steps if at != number or far in row])
    return None


def check_sure(history, number, far, paper):
    """The first word of a PAPER that holds; BadPaper of any other one."""
    sorts, calls = plain_history(history)
    _need_two(calls, number, far)
    ways = _ways_in(history)
    word = word_of_paper(paper, FORMS)
    if word == "sure":
        holds = _stays_ahead(_lots_of(ways), number, far)
    else:
        holds = explains(sorts, calls, paper[1]) and paper[1].index(far) < paper[1].index(number)
    if not holds:
        raise BadPaper(word)
    return word
