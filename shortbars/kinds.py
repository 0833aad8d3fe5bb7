"""What plain things are: integers, VALUES, SORTS, and what the CALLS of each WORD give and tell."""

MOST = 1000000
LARGEST_ROOM = 9
MOST_THINGS = 4

WORDS = {
    "cell": ("write", "read"),
    "queue": ("put", "take"),
    "stack": ("put", "take"),
    "heads": ("put", "take"),
    "room": ("enter", "leave"),
    "counter": ("add", "count"),
    "tickets": ("draw",),
    "set": ("join", "drop", "has"),
}
# Of each WORD what stands as GIVEN, and what stands as TOLD.
FORMS = {
    "write": ("value", "none"),
    "read": ("none", "perhaps"),
    "put": ("value", "none"),
    "take": ("none", "perhaps"),
    "enter": ("value", "none"),
    "leave": ("value", "none"),
    "add": ("none", "none"),
    "count": ("none", "value"),
    "draw": ("none", "value"),
    "join": ("value", "none"),
    "drop": ("value", "none"),
    "has": ("value", "bit"),
}
ONCE = ("write", "put", "enter", "leave", "join", "drop")


def is_whole(thing):
    """Whether it is an integer: True and False are none, though Python takes them for some."""
    return isinstance(thing, int) and not isinstance(thing, bool)


def is_value(thing):
    """Whether it is a VALUE; moments are the same integers."""
    return is_whole(thing) and 0 <= thing <= MOST


def is_number_below(thing, many):
    """Whether it is one of so many numbers, from 0 on."""
    return is_whole(thing) and 0 <= thing < many


def is_ascending(numbers):
    """Whether each one is greater than the one ahead."""
    return all(low < high for low, high in zip(numbers, numbers[1:]))


def are_values(thing):
    """Whether it is an ascending tuple of VALUES, perhaps ()."""
    if not isinstance(thing, tuple):
        return False
    return all(is_value(value) for value in thing) and is_ascending(thing)


def are_numbers_below(thing, many):
    """Whether it is an ascending tuple, perhaps (), of some of so many numbers."""
    if not isinstance(thing, tuple):
        return False
    return all(is_number_below(number, many) for number in thing) and is_ascending(thing)


def is_alike(thing, plain):
    """Whether any value is this plain one: None, an integer, or a tuple of such."""
    if isinstance(plain, tuple):
        if not isinstance(thing, tuple) or len(thing) != len(plain):
            return False
        return all(is_alike(one, other) for one, other in zip(thing, plain))
    if plain is None:
        return thing is None
    return is_whole(thing) and thing == plain


def is_room(thing):
    """Whether it is a pair ("room", K)."""
    if not isinstance(thing, tuple) or len(thing) != 2:
        return False
    if not isinstance(thing[0], str) or thing[0] != "room":
        return False
    return is_whole(thing[1]) and 1 <= thing[1] <= LARGEST_ROOM


def is_sort(thing):
    """Whether it is a SORT."""
    if isinstance(thing, str):
        return thing in WORDS and thing != "room"
    return is_room(thing)


def are_sorts(thing):
    """Whether it is a tuple of 1 to 4 SORTS."""
    if not isinstance(thing, tuple) or not 1 <= len(thing) <= MOST_THINGS:
        return False
    return all(is_sort(sort) for sort in thing)


def name_of(sort):
    """The string that stands for a SORT, "room" for each room."""
    if isinstance(sort, tuple):
        return "room"
    return sort


def is_word_of(thing, sort):
    """Whether it is a WORD of the CALLS of this SORT."""
    return isinstance(thing, str) and thing in WORDS[name_of(sort)]


def can_be_given(word, thing):
    """Whether it may stand as GIVEN beside this WORD."""
    return _has_form(thing, FORMS[word][0])


def can_be_told(word, thing):
    """Whether it may stand as TOLD beside this WORD."""
    return _has_form(thing, FORMS[word][1])


def _has_form(thing, form):
    if form == "none":
        return thing is None
    if form == "perhaps":
        return thing is None or is_value(thing)
    if form == "bit":
        return is_number_below(thing, 2)
    return is_value(thing)


def is_given_once(word):
    """Whether no two CALLS of one thing with this WORD have the same GIVEN."""
    return word in ONCE
