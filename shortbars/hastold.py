"""Sets: what a question whether a VALUE is in could be told as well."""

from shortbars.calls import WORD, with_told
from shortbars.errors import BadNumber
from shortbars.flags import flag_flaws, set_calls
from shortbars.kinds import is_number_below


def could_have(history, number):
    """The ascending tuple of those of 0 and 1 that a "has" could tell."""
    calls = set_calls(history)
    if not is_number_below(number, len(calls)) or calls[number][WORD] != "has":
        raise BadNumber(number)
    return tuple([told for told in (0, 1) if not flag_flaws(with_told(calls, number, told))])
