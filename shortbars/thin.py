"""HISTORIES with fewer VALUES, with plain moments, or with other VALUES; quiet places."""

from shortbars.calls import BEGIN, END, THING, moments_of, plain_history, value_of
from shortbars.errors import BadRenaming, BadThing, BadValues
from shortbars.kinds import are_values, is_ascending, is_number_below, is_value, name_of


def without_values(history, thing, some):
    """The HISTORY without these VALUES of a thing that is no counter and no tickets."""
    sorts, calls = plain_history(history)
    if not _is_thing_of_values(sorts, thing):
        raise BadThing(thing)
    if not are_values(some):
        raise BadValues(some)
    return sorts, tuple([call for call in calls if call[THING] != thing or value_of(call) not in some])


def _is_thing_of_values(sorts, thing):
    return is_number_below(thing, len(sorts)) and name_of(sorts[thing]) not in ("counter", "tickets")


def quiet_places(history):
    """The ascending tuple of all quiet places."""
    calls = plain_history(history)[1]
    return tuple([place for place in range(1, len(calls)) if _is_quiet(calls, place)])


def _is_quiet(calls, place):
    return all(call[END] < calls[place][BEGIN] for call in calls[:place])


def plain_form(history):
    """The PLAIN FORM: the same turn of the moments, these being 0, 1, 2 and so on."""
    sorts, calls = plain_history(history)
    plain = {moment: at for at, moment in enumerate(moments_of(calls))}
    return sorts, tuple([(plain[call[BEGIN]], plain[call[END]]) + call[THING:] for call in calls])


def renamed(history, thing, renaming):
    """The HISTORY with NEW in the place of OLD for a thing that is no counter and no tickets."""
    sorts, calls = plain_history(history)
    if not _is_thing_of_values(sorts, thing):
        raise BadThing(thing)
    values = [value_of(call) for call in calls if call[THING] == thing and value_of(call) is not None]
    if not _is_renaming(renaming) or not _fits(renaming, values, sorts[thing]):
        raise BadRenaming(renaming)
    names = {old: int(new) for old, new in renaming}
    return sorts, tuple([_renamed_call(call, thing, names) for call in calls])


def _is_renaming(thing):
    if not isinstance(thing, tuple) or not all(_is_pair_of_values(pair) for pair in thing):
        return False
    news = [new for _, new in thing]
    return is_ascending([old for old, _ in thing]) and len(set(news)) == len(news)


def _is_pair_of_values(thing):
    return isinstance(thing, tuple) and len(thing) == 2 and is_value(thing[0]) and is_value(thing[1])


def _fits(renaming, values, sort):
    olds = [old for old, _ in renaming]
    if sort == "heads" and not is_ascending([new for _, new in renaming]):
        return False
    return all(value in olds for value in values)


def _renamed_call(call, thing, names):
    begin, end, place, word, given, told = call
    if place != thing:
        return call
    if given is not None:
        return begin, end, place, word, names[given], told
    if told is not None:
        return begin, end, place, word, given, names[told]
    return call
