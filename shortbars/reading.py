"""Words of lines as they are read: each function tells what stands at a word, and the number of the next word."""

from shortbars.errors import BadText
from shortbars.kinds import LARGEST_ROOM, MOST_THINGS, WORDS

FIGURES = "0123456789"
MOST_FIGURES = 31


def lines_of(text):
    """The list of the lists of words of all lines; BadText of what is no string."""
    if not isinstance(text, str):
        raise BadText(None, None)
    return [line.split(" ") for line in text.split("\n")]


def need_no_more(words, line, at):
    """BadText of a line with a word too many."""
    if at < len(words):
        raise BadText(line, at)


def word_at(words, line, at, good):
    """The word there, which has to be one of these; BadText of any other one, and where there is none."""
    if at >= len(words) or words[at] not in good:
        raise BadText(line, at)
    return words[at]


def is_integer(word):
    """Whether a string is an integer, by its form: figures, not too many, without needless zeros."""
    if not 1 <= len(word) <= MOST_FIGURES or not all(letter in FIGURES for letter in word):
        return False
    return len(word) == 1 or word[0] != "0"


def integer_at(words, line, at):
    """The integer there."""
    if at >= len(words) or not is_integer(words[at]):
        raise BadText(line, at)
    return int(words[at])


def number_at(words, line, at, least, most):
    """The integer there, which has to be one from least to most."""
    number = integer_at(words, line, at)
    if not least <= number <= most:
        raise BadText(line, at)
    return number


def integers_at(words, line, at, many):
    """The tuple of so many integers."""
    return tuple([integer_at(words, line, at + more) for more in range(many)])


def integer_or_none(word):
    """What a string that is "-" or an integer stands for."""
    if word == "-":
        return None
    return int(word)


def _entry_at(words, line, at):
    if at < len(words) and words[at] == "-":
        return None
    return integer_at(words, line, at)


def sort_at(words, line, at):
    """The pair of the SORT that begins there, and the number of the next word."""
    name = word_at(words, line, at, list(WORDS))
    if name != "room":
        return name, at + 1
    return ("room", number_at(words, line, at + 1, 1, LARGEST_ROOM)), at + 2


def sorts_at(words, line, at, many):
    """The pair of a tuple of so many SORTS, and the number of the next word."""
    sorts = []
    for _ in range(many):
        sort, at = sort_at(words, line, at)
        sorts.append(sort)
    return tuple(sorts), at


def sorts_in(words, line):
    """The tuple of the SORTS that a line has, and nothing else."""
    sorts, at = sorts_at(words, line, 0, 1)
    while at < len(words):
        if len(sorts) == MOST_THINGS:
            raise BadText(line, at)
        more, at = sorts_at(words, line, at, 1)
        sorts = sorts + more
    return sorts


def call_at(words, line, at):
    """The CALL there, by its form, of six words."""
    begin, end, thing = integers_at(words, line, at, 3)
    word = word_at(words, line, at + 3, [name for names in WORDS.values() for name in names])
    return begin, end, thing, word, _entry_at(words, line, at + 4), _entry_at(words, line, at + 5)
