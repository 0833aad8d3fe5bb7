"""A WATCH that is led: CALLS that begin and end, and whether all that has ended can still be explained."""

from shortbars.answers import perhaps_told
from shortbars.calls import END, MOST_CALLS, THING, TOLD, WORD, plain_sort
from shortbars.errors import BadGiven, BadNumber, BadSorts, BadThing, BadTold, BadWord, NothingLeft, TooMany
from shortbars.kinds import are_sorts, can_be_given, can_be_told, is_given_once, is_number_below, is_word_of
from shortbars.openings import can_be_explained, is_open

MOST_UNDONE = 20


class Watch:
    """The CALLS of things of these SORTS, of which each BEGIN and each END is the next moment."""

    def __init__(self, sorts):
        if not are_sorts(sorts):
            raise BadSorts(sorts)
        self._sorts = tuple([plain_sort(sort) for sort in sorts])
        # By their numbers; END and TOLD of those that are open are None.
        self._calls = []
        # Of each moment the number of the CALL that began or ended at it.
        self._steps = []
        self._went_bad = None

    def begin(self, thing, word, given):
        """The number of the CALL that begins."""
        if not is_number_below(thing, len(self._sorts)):
            raise BadThing(thing)
        if not is_word_of(word, self._sorts[thing]):
            raise BadWord(word)
        if not can_be_given(word, given) or self._is_twin(thing, word, given):
            raise BadGiven(given)
        number = len(self._calls)
        if number == MOST_CALLS:
            raise TooMany(MOST_CALLS)
        if given is not None:
            given = int(given)
        self._calls.append((len(self._steps), None, int(thing), word[:], given, None))
        self._steps.append(number)
        return number

    def _is_twin(self, thing, word, given):
        """Whether another CALL has this GIVEN already, and no other one may have it."""
        return is_given_once(word) and (thing, word, given) in [call[THING:TOLD] for call in self._calls]

    def end(self, number, told):
        """The open CALL ends and tells this."""
        self._need_end(number, told)
        self._put_end(number, told)

    def _need_open(self, number):
        if not is_number_below(number, len(self._calls)) or not is_open(self._calls[number]):
            raise BadNumber(number)

    def _need_end(self, number, told):
        self._need_open(number)
        if not can_be_told(self._calls[number][WORD], told):
            raise BadTold(told)

    def _put_end(self, number, told):
        call = self._calls[number]
        if told is not None:
            told = int(told)
        self._calls[number] = call[:END] + (len(self._steps),) + call[THING:TOLD] + (told,)
        self._steps.append(int(number))
        if self._went_bad is None and not self._is_thing_good(call[THING]):
            self._went_bad = len(self._steps) - 1

    def _is_thing_good(self, thing):
        """Whether all that has ended of a thing can be explained: what others do makes no difference to it."""
        return can_be_explained(self._sorts[thing], [call for call in self._calls if call[THING] == thing])

    @property
    def open_calls(self):
        """The ascending tuple of the numbers of all open CALLS."""
        return tuple([number for number, call in enumerate(self._calls) if is_open(call)])

    @property
    def history(self):
        """The HISTORY of all CALLS that have ended."""
        return self._sorts, tuple([call for call in self._calls if not is_open(call)])

    @property
    def is_good(self):
        """Whether it is good."""
        return self._went_bad is None

    @property
    def went_bad(self):
        """The moment of the first END behind which it was bad, None if it is good."""
        return self._went_bad

    def answers(self, number):
        """The tuple of all ANSWERS of an open CALL, () of a bad WATCH."""
        self._need_open(number)
        call = self._calls[number]
        asked = perhaps_told(self._calls, call[THING], call[WORD])
        return tuple([told for told in asked if self.would(number, told)])

    def would(self, number, told):
        """Whether it is good behind that END."""
        self._need_end(number, told)
        self._put_end(number, told)
        good = self.is_good
        self.undo()
        return good

    def undo(self, many=1):
        """Takes so many BEGINS and ENDS back."""
        if not is_number_below(many, MOST_UNDONE + 1) or many == 0:
            raise BadNumber(many)
        if many > len(self._steps):
            raise NothingLeft(many)
        for _ in range(many):
            self._take_back(self._steps.pop())
        if self._went_bad is not None and self._went_bad >= len(self._steps):
            self._went_bad = None

    def _take_back(self, number):
        """What was done last of this CALL is as if it had not been done."""
        call = self._calls[number]
        if is_open(call):
            self._calls.pop()
        else:
            self._calls[number] = call[:END] + (None,) + call[THING:TOLD] + (None,)

    def __len__(self):
        return len(self._steps)
