"""A desk: a WATCH that is led by lines."""

from shortbars.errors import BadText, CallError, NothingLeft, TooMany
from shortbars.reading import integer_or_none, is_integer, lines_of, sorts_in
from shortbars.watch import Watch

# Of each first word of a line what the words behind it have to be.
LINES = {
    "begin": ("integer", "word", "entry"),
    "end": ("integer", "entry"),
    "would": ("integer", "entry"),
    "answers": ("integer",),
    "open": (),
    "good": (),
    "bad": (),
    "history": (),
    "undo": (),
}
NO = "no"


class Desk:
    """Leads a WATCH, at first without CALLS, of the SORTS that its line tells."""

    def __init__(self, text):
        lines = lines_of(text)
        sorts = sorts_in(lines[0], 0)
        if len(lines) > 1:
            raise BadText(1, 0)
        self._watch = Watch(sorts)

    @property
    def watch(self):
        """The very WATCH that it leads."""
        return self._watch

    def say(self, line):
        """The answer to a line."""
        words = _words_of_line(line)
        if not words:
            return NO
        try:
            return self._answer(words[0], [_thing_of(word, kind) for word, kind in zip(words[1:], LINES[words[0]])])
        except NothingLeft:
            return "nothing"
        except (CallError, TooMany):
            return NO

    def _answer(self, word, things):
        watch = self._watch
        if word == "begin":
            return str(watch.begin(things[0], things[1], things[2]))
        if word == "end":
            watch.end(things[0], things[1])
            return _one_of(watch.is_good, "good", "bad")
        if word == "would":
            return _one_of(watch.would(things[0], things[1]), "yes", NO)
        if word == "answers":
            return _listed(watch.answers(things[0]))
        if word == "open":
            return _listed(watch.open_calls)
        if word == "good":
            return _one_of(watch.is_good, "yes", NO)
        if word == "bad":
            return _one_of(watch.is_good, "none", str(watch.went_bad))
        if word == "history":
            return str(len(watch.history[1]))
        watch.undo()
        return "done"


def _words_of_line(line):
    """The words of a line that a desk knows, [] of anything else."""
    if not isinstance(line, str):
        return []
    words = line.split(" ")
    if words[0] not in LINES or len(words) != 1 + len(LINES[words[0]]):
        return []
    if not all(_has_kind(word, kind) for word, kind in zip(words[1:], LINES[words[0]])):
        return []
    return words


def _has_kind(word, kind):
    if kind == "word" or (kind == "entry" and word == "-"):
        return True
    return is_integer(word)


def _thing_of(word, kind):
    """What a word that has to be of this kind stands for."""
    if kind == "word":
        return word
    return integer_or_none(word)


def _one_of(chosen, one, other):
    if chosen:
        return one
    return other


def _listed(numbers):
    """These numbers, some of which may be None, with single spaces between."""
    if not numbers:
        return "none"
    return " ".join(["-" if number is None else str(number) for number in numbers])
