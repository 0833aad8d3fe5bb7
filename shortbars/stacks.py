"""Whether a HISTORY of one stack is explained: PAPERS that tell, their check, and an EXPLANATION by PILES."""

from shortbars.calls import BEGIN, lone_calls
from shortbars.errors import BadPaper
from shortbars.kinds import is_number_below
from shortbars.papers import word_of_paper
from shortbars.piles import beneath_pairs, bases_of, fewest_barring, is_barring, is_pile, joined_parts, stretch_of
from shortbars.putting import fewest_cover, is_empty_answer, is_matched, is_take_flaw, put_of, spans_of, take_flaws
from shortbars.putting import takes_of, values_put
from shortbars.runs import explains

FORMS = (("order", 2), ("unput", 2), ("twice", 3), ("early", 2), ("pile", 2), ("covered", 3))
SORTS = ("stack",)


def is_explained_stack(history):
    """Whether the HISTORY is explained."""
    return not stack_flaws(lone_calls(history, SORTS))


def stack_paper(history):
    """The PAPER on whether the HISTORY is explained."""
    calls = lone_calls(history, SORTS)
    flaws = stack_flaws(calls)
    if flaws:
        return flaws[0]
    return "order", _order_of(calls)


def order_by_piles(history):
    """An EXPLANATION, None if there is none."""
    calls = lone_calls(history, SORTS)
    if stack_flaws(calls):
        return None
    return _order_of(calls)


def stack_flaws(calls):
    """A list of PAPERS that bar an EXPLANATION; [] just if it is explained."""
    unmatched = take_flaws(calls)
    if unmatched:
        return unmatched
    pile = fewest_barring(calls)
    if pile is not None:
        return [("pile", pile)]
    spans = spans_of(calls)
    covers = [(number, fewest_cover(spans, call)) for number, call in enumerate(calls) if is_empty_answer(call)]
    return [("covered", number, tuple(sorted(cover))) for number, cover in covers if cover is not None]


def _order_of(calls):
    """An EXPLANATION of CALLS without flaws: each of them gets a pair (a moment, its turn there).

    No moment is that of two CALLS, so it is by the turn alone that those at the same one stand right.
    """
    spans = spans_of(calls)
    places = {}
    for depth, (value, begin, end) in enumerate(_nests_of(calls, spans)):
        places[put_of(calls, value)] = (begin, depth)
        for take in takes_of(calls, value):
            places[take] = (end, -depth)
    for value in values_put(calls):
        if value not in spans:
            put, take = put_of(calls, value), takes_of(calls, value)[0]
            moment = max(calls[put][BEGIN], calls[take][BEGIN])
            places[put] = (moment, 0)
            places[take] = (moment, 1)
    for number, call in enumerate(calls):
        if is_empty_answer(call):
            places[number] = (_bare_moment(spans, call), 1)
    return tuple(sorted(range(len(calls)), key=lambda at: places[at]))


def _nests_of(calls, spans):
    """The list of triples of all VALUES with SPANS and the stretches of the PILES beneath which they lie.

    Of each joined PILE one that can lie beneath all others does; these others follow, parted anew.
    """
    beneath = beneath_pairs(calls, list(spans))
    piles = joined_parts(spans)
    nests = []
    while piles:
        pile = piles.pop()
        value = bases_of(beneath, pile)[0]
        begin, end = stretch_of(spans, pile)
        nests.append((value, begin, end))
        piles.extend(joined_parts({other: spans[other] for other in pile if other != value}))
    return nests


def _bare_moment(spans, call):
    """When an empty answer that is not covered stands: at its BEGIN, or behind the stretch that holds this."""
    for pile in joined_parts(spans):
        begin, end = stretch_of(spans, pile)
        # A stretch without end that holds it would cover the CALL.
        if begin < call[BEGIN] < end:
            return end
    return call[BEGIN]


def check_stack(history, paper):
    """The first word of a PAPER that holds; BadPaper of any other one."""
    calls = lone_calls(history, SORTS)
    word = word_of_paper(paper, FORMS)
    if not _holds(calls, word, paper[1:]):
        raise BadPaper(word)
    return word


def _holds(calls, word, things):
    if word == "order":
        return explains(SORTS, calls, things[0])
    if word in ("unput", "twice", "early"):
        return is_take_flaw(calls, word, things)
    spans = spans_of(calls)
    if not is_matched(calls) or not is_pile(spans, things[-1]):
        return False
    if word == "pile":
        return is_barring(spans, beneath_pairs(calls, things[0]), things[0])
    if not is_number_below(things[0], len(calls)) or not is_empty_answer(calls[things[0]]):
        return False
    return fewest_cover({value: spans[value] for value in things[1]}, calls[things[0]]) is not None
