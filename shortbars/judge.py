"""SHEETS: a TERM, and what is said of its HISTORY."""

from shortbars.calls import is_ahead
from shortbars.kinds import is_number_below
from shortbars.places import how_many
from shortbars.reading import integers_at, lines_of, need_no_more, word_at
from shortbars.search import first_explanation, need_few
from shortbars.sure import sure_pairs
from shortbars.terms import history_of
from shortbars.texts import term_in
from shortbars.thin import quiet_places

# Of each SAYING how many integers it has, None if as many as there are.
SAYINGS = {
    "explained": 0,
    "calls": 1,
    "ahead": 2,
    "surely": 2,
    "quiet": 1,
    "first": None,
    "count": 1,
}
SEARCHED = ("explained", "surely", "first", "count")


def judged(text):
    """Of a SHEET the tuple with True or False for each SAYING."""
    lines = lines_of(text)
    term = term_in(lines[0])
    sayings = [_saying_in(words, number) for number, words in enumerate(lines) if number > 0]
    history = history_of(term)
    found = (None, 0, ())
    if any(word in SEARCHED for word, _ in sayings):
        need_few(history[1])
        found = _found_in(history)
    return tuple([_is_so(history, found, word, numbers) for word, numbers in sayings])


def _saying_in(words, line):
    """The pair of the word of a SAYING and of the tuple of its integers."""
    word = word_at(words, line, 0, list(SAYINGS))
    many = SAYINGS[word]
    if many is None:
        many = len(words) - 1
    numbers = integers_at(words, line, 1, many)
    need_no_more(words, line, 1 + many)
    return word, numbers


def _found_in(history):
    """The least EXPLANATION, None if there is none, how many there are, and all sure pairs: looked for once only."""
    first = first_explanation(history)
    if first is None:
        return None, 0, ()
    return first, how_many(history), sure_pairs(history)


def _is_so(history, found, word, numbers):
    """Whether a SAYING is so, by what was found of the HISTORY."""
    first, count, pairs = found
    if word == "explained":
        return first is not None
    if word == "first":
        return first == numbers
    if word == "count":
        return count == numbers[0]
    if word == "surely":
        return numbers in pairs
    if word == "calls":
        return len(history[1]) == numbers[0]
    if word == "quiet":
        return numbers[0] in quiet_places(history)
    # A number that is not there is ahead of none.
    if not all(is_number_below(number, len(history[1])) for number in numbers):
        return False
    return is_ahead(history, numbers[0], numbers[1])
