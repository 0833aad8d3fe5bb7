"""Texts of HISTORIES and TERMS, and how they are read."""

from shortbars.calls import MOST_CALLS, PARTS_OF_CALL, need_history, plain_history
from shortbars.errors import BadText
from shortbars.kinds import MOST_THINGS
from shortbars.reading import call_at, integer_at, integers_at, lines_of, need_no_more, number_at, sorts_at, sorts_in
from shortbars.reading import word_at
from shortbars.terms import MOST_SOME, MOST_WORDS, TERMS, kid_places, need_term, plain_term


def history_text(history):
    """The text of a HISTORY."""
    sorts, calls = plain_history(history)
    lines = [[_sort_text(sort) for sort in sorts]] + [_call_words(call) for call in calls]
    return "\n".join([" ".join(line) for line in lines])


def _sort_text(sort):
    if isinstance(sort, tuple):
        return "room " + str(sort[1])
    return sort


def _call_words(call):
    return [_part_text(part) for part in call]


def _part_text(part):
    if part is None:
        return "-"
    return str(part)


def term_text(term):
    """The text of a TERM."""
    return " ".join(_term_words(plain_term(need_term(term))))


def _term_words(term):
    words = [term[0]] + _own_words(term)
    for at in kid_places(term):
        words = words + _term_words(term[at])
    return words


def _own_words(term):
    """The words of a TERM behind its first one, ahead of those of the TERMS in it."""
    if term[0] == "history":
        sorts, calls = term[1]
        words = [str(len(sorts))] + [_sort_text(sort) for sort in sorts] + [str(len(calls))]
        return words + [word for call in calls for word in _call_words(call)]
    if term[0] == "without":
        return [str(number) for number in (term[2], len(term[3])) + term[3]]
    if term[0] in ("shifted", "thing"):
        return [str(term[2])]
    return []


def read_history(text):
    """The HISTORY with this text; BadText, then BadHistory."""
    lines = lines_of(text)
    sorts = sorts_in(lines[0], 0)
    calls = []
    for number, words in enumerate(lines):
        if number > MOST_CALLS:
            raise BadText(number, 0)
        if number > 0:
            calls.append(call_at(words, number, 0))
            need_no_more(words, number, PARTS_OF_CALL)
    return need_history((sorts, tuple(calls)))


def read_term(text):
    """The TERM with this text; BadText, then BadTerm."""
    lines = lines_of(text)
    term = term_in(lines[0])
    if len(lines) > 1:
        raise BadText(1, 0)
    return need_term(term)


def term_in(words):
    """What the first line, with these words, tells a TERM to be, by its form alone."""
    term, at, _ = _term_at(words, 0, 0)
    need_no_more(words, 0, at)
    return term


def _term_at(words, at, many):
    """The triple of the TERM that begins there, of the number of the next word, and of how many TERMS began.

    So many began ahead of this one.
    """
    if many == MOST_WORDS:
        raise BadText(0, at)
    word = word_at(words, 0, at, list(TERMS))
    own, at = _own_things(words, word, at + 1)
    many += 1
    kids = []
    for _ in TERMS[word][1]:
        kid, at, many = _term_at(words, at, many)
        kids.append(kid)
    return (word,) + tuple(kids) + own, at, many


def _own_things(words, word, at):
    """The pair of the things of a TERM with this word that are no TERMS, and of the number of the next word."""
    if word == "history":
        many = number_at(words, 0, at, 1, MOST_THINGS)
        sorts, at = sorts_at(words, 0, at + 1, many)
        many = number_at(words, 0, at, 0, MOST_CALLS)
        calls = tuple([call_at(words, 0, at + 1 + PARTS_OF_CALL * number) for number in range(many)])
        return ((sorts, calls),), at + 1 + PARTS_OF_CALL * many
    if word == "without":
        thing = integer_at(words, 0, at)
        many = number_at(words, 0, at + 1, 0, MOST_SOME)
        return (thing, integers_at(words, 0, at + 2, many)), at + 2 + many
    if word in ("shifted", "thing"):
        return (integer_at(words, 0, at),), at + 1
    return (), at
