"""TERMS: HISTORIES that are told by words, made of other ones."""

from shortbars.calls import BEGIN, END, THING, history_of_thing, moments_of, need_history, plain_history
from shortbars.errors import BadHistory, BadTerm, BadThing
from shortbars.kinds import MOST_THINGS, are_values, is_number_below, is_value
from shortbars.thin import plain_form, without_values

# Of each word how many things a tuple with it has, and where in it TERMS stand.
TERMS = {
    "history": (2, ()),
    "beside": (3, (1, 2)),
    "behind": (3, (1, 2)),
    "shifted": (3, (1,)),
    "plain": (2, (1,)),
    "thing": (3, (1,)),
    "without": (4, (1,)),
}
MOST_WORDS = 20
DEEPEST = 8
MOST_SOME = 10


def need_term(thing):
    """The TERM itself; BadTerm of what is none."""
    _history_in(thing)
    return thing


def history_of(term):
    """The HISTORY of a TERM."""
    return _history_in(term)


def kids_of(term):
    """The tuple of the TERMS that stand in a TERM itself, from left to right."""
    return tuple([plain_term(term[at]) for at in kid_places(need_term(term))])


def kid_places(term):
    """At which places of a TERM others stand."""
    return TERMS[term[0]][1]


def _history_in(thing):
    """The HISTORY of a TERM; BadTerm of what is none."""
    _need_forms(thing, (), 0)
    return _history_at(thing, ())


def _need_forms(thing, path, words):
    """How many words there are, with these that stood ahead; BadTerm of what has no form."""
    # Each TERM around it has one step of the path.
    if words == MOST_WORDS or len(path) == DEEPEST:
        raise BadTerm(())
    if not _has_form(thing):
        raise BadTerm(path)
    words += 1
    for at in kid_places(thing):
        words = _need_forms(thing[at], path + (at,), words)
    return words


def _has_form(thing):
    """Whether it is a tuple of a word and as many things as it wants, those that are no TERMS being right."""
    if not isinstance(thing, tuple) or len(thing) == 0 or not isinstance(thing[0], str) or thing[0] not in TERMS:
        return False
    word = thing[0]
    if len(thing) != TERMS[word][0]:
        return False
    if word == "history":
        return _is_history(thing[1])
    if word == "shifted":
        return is_value(thing[2])
    if word == "thing":
        return is_number_below(thing[2], MOST_THINGS)
    if word == "without":
        return is_number_below(thing[2], MOST_THINGS) and are_values(thing[3]) and len(thing[3]) <= MOST_SOME
    return True


def _is_history(thing):
    try:
        need_history(thing)
    except BadHistory:
        return False
    return True


def _history_at(term, path):
    """The HISTORY of a TERM that stands at this path; BadTerm of what has none, what stands in it ahead."""
    kids = [_history_at(term[at], path + (at,)) for at in kid_places(term)]
    history = _made_of(term, kids)
    if not _is_history(history):
        raise BadTerm(path)
    return plain_history(history)


def _made_of(term, kids):
    """What a TERM makes of the HISTORIES of those in it: a HISTORY, or what is none, or None."""
    word = term[0]
    if word == "history":
        return term[1]
    if word == "beside":
        return _beside(kids[0], kids[1])
    if word == "behind":
        return _behind(kids[0], kids[1])
    if word == "shifted":
        return _shifted(kids[0], term[2])
    if word == "plain":
        return plain_form(kids[0])
    try:
        if word == "thing":
            return history_of_thing(kids[0], term[2])
        return without_values(kids[0], term[2], term[3])
    except BadThing:
        return None


def _beside(history, other):
    sorts, calls = history
    moved = [call[:THING] + (len(sorts) + call[THING],) + call[THING + 1:] for call in other[1]]
    return sorts + other[0], tuple(sorted(list(calls) + moved, key=lambda call: call[BEGIN]))


def _behind(history, other):
    sorts, calls = history
    if sorts != other[0]:
        return None
    # Behind nothing each moment stays.
    later = max(moments_of(calls), default=-1) + 1
    return sorts, calls + _shifted(other, later)[1]


def _shifted(history, many):
    sorts, calls = history
    return sorts, tuple([(call[BEGIN] + many, call[END] + many) + call[THING:] for call in calls])


def plain_term(term):
    """A TERM as a plain one of plain things."""
    return tuple([_plain_part(term, at) for at in range(len(term))])


def _plain_part(term, at):
    """What stands at this place of a TERM as a plain thing."""
    thing = term[at]
    if at in kid_places(term):
        return plain_term(thing)
    if isinstance(thing, str):
        return thing[:]
    if term[0] == "history":
        return plain_history(thing)
    if isinstance(thing, tuple):
        return tuple([int(value) for value in thing])
    return int(thing)
