"""Things that the tests pass: histories, by chance from told seeds or one by one, and what is none."""

from itertools import product

from oracle import act, first_state

TOP = 1000000
WORDS = {
    "cell": ("write", "read"), "queue": ("put", "take"), "stack": ("put", "take"), "heads": ("put", "take"),
    "room": ("enter", "leave"), "counter": ("add", "count"), "tickets": ("draw",), "set": ("join", "drop", "has"),
}
ONCE = ("write", "put", "enter", "leave", "join", "drop")
ALL_SORTS = ("cell", "queue", "stack", "heads", "counter", "tickets", "set") + tuple(("room", k) for k in range(1, 10))


class Odd:
    """An object of another class."""


class Same:
    """An object that says of itself that it equals whatever there is."""

    def __eq__(self, other):
        return True

    def __ne__(self, other):
        return False

    def __lt__(self, other):
        return True

    __gt__ = __le__ = __ge__ = __lt__

    def __hash__(self):
        return 0


class Integer(int):
    """Integers of a class of their own."""


class Text(str):
    """Strings of a class of their own."""


class Row(tuple):
    """Tuples of a class of their own."""


# Things of every kind but floats.
ODD = (
    None, True, False, 0, 1, 2, 3, 9, 10, 11, -1, TOP, TOP + 1, 10 ** 59, -(10 ** 59), "", "cell", "order", "0", "form",
    b"", b"cell", (), [], {}, set(), frozenset(), (0,), [0], {0: 0}, {0}, (0, 0), (0, 1), (1, 0), [0, 1], (0, 1, 2),
    (True,), (False, True), (0, True), (None,), ("0",), ((),), ((0,),), ([],), ((0, 0),), ((0, 1),), ((0, 1), (1, 0)),
    ("room", 1), ("order",), ("order", ()), ("order", (0,)), Odd(), Odd, Same(), (Same(),), (Same(), Same()), len,
    range(3), ValueError("x"), (0, -1), (-1, 0), (0, TOP + 1), (0, None), (0, "1"), (0, (1,)),
)


def name_of(sort):
    return "room" if isinstance(sort, tuple) else sort


def told_kinds(word, value):
    """Some things that may stand as TOLD, beside what the value is."""
    if word in ("read", "take"):
        return (None, value)
    if word in ("count", "draw"):
        return (value,)
    if word == "has":
        return (0, 1)
    return (None,)


def ranked(spans):
    """Pairs of times, begins ahead of ends, as pairs of the moments 0, 1, 2 and so on, begins ascending."""
    ends = sorted([(begin, 0, at) for at, (begin, _) in enumerate(spans)]
                  + [(end, 1, at) for at, (_, end) in enumerate(spans)])
    moments = {(kind, at): place for place, (_, kind, at) in enumerate(ends)}
    return [(moments[(0, at)], moments[(1, at)]) for at in range(len(spans))]


def free_of_twins(calls):
    """The calls without those that give what one ahead gave already, and may not."""
    kept = []
    for call in calls:
        twin = [other for other in kept if call[3] in ONCE and other[2:5] == call[2:5]]
        if not twin:
            kept.append(call)
    return kept


def wild(chance, sorts, many, most):
    """A history of up to so many calls with VALUES below most, moments and all else by chance."""
    moments = list(range(2 * many))
    chance.shuffle(moments)
    spans = sorted(tuple(sorted(moments[2 * at:2 * at + 2])) for at in range(many))
    calls = []
    for begin, end in spans:
        thing = chance.randrange(len(sorts))
        word = chance.choice(WORDS[name_of(sorts[thing])])
        given = chance.randrange(most) if word in ONCE or word == "has" else None
        told = chance.choice(told_kinds(word, chance.randrange(most)))
        calls.append((begin, end, thing, word, given, told))
    return sorts, tuple(free_of_twins(calls))


def grown(chance, sorts, many, most, width):
    """An explained history: a row of calls one behind the other, each of them then made longer."""
    states = [first_state(sort) for sort in sorts]
    done = []
    for _ in range(many):
        thing = chance.randrange(len(sorts))
        word = chance.choice(WORDS[name_of(sorts[thing])])
        given = chance.randrange(most) if word in ONCE or word == "has" else None
        if word in ONCE and (thing, word, given) in [call[:3] for call in done]:
            continue
        state = list(states[thing])
        goes, told = act(sorts[thing], state, word, given)
        if goes:
            states[thing] = state
            done.append((thing, word, given, told))
    spans = [(10 * at - chance.randrange(width), 10 * at + 1 + chance.randrange(width)) for at in range(len(done))]
    return sorts, tuple(sorted(moments + call for moments, call in zip(ranked(spans), done)))


def spoiled(chance, history):
    """The history with the TOLD, or the moments, of some calls exchanged."""
    sorts, calls = history
    if len(calls) < 2:
        return history
    one, two = sorted(chance.sample(range(len(calls)), 2))
    first, second = calls[one], calls[two]
    if first[2:5] == second[2:5] and first[3] not in ONCE:
        changed = (first[:5] + second[5:], second[:5] + first[5:])
    else:
        changed = (first[:2] + second[2:], second[:2] + first[2:])
    spoilt = list(calls)
    spoilt[one], spoilt[two] = changed
    return sorts, tuple(spoilt)


def mixed(chance, sorts, many, most, times):
    """Histories of every sort of making, so many times."""
    for at in range(times):
        if at % 3 == 0:
            yield wild(chance, sorts, chance.randrange(many + 1), most)
        else:
            history = grown(chance, sorts, chance.randrange(1, many + 1), most, chance.choice((2, 9, 25, 60)))
            yield history if at % 3 == 1 else spoiled(chance, history)


def shapes(many):
    """All turns of the moments of so many calls: tuples of pairs, begins ascending."""
    def paired(left):
        if not left:
            return [()]
        rows = []
        for at in range(1, len(left)):
            rest = left[1:at] + left[at + 1:]
            rows += [((left[0], left[at]),) + row for row in paired(rest)]
        return rows
    return paired(tuple(range(2 * many)))


def every(sort, words, many):
    """All histories of just so many calls of one thing, the calls (WORD, GIVEN, TOLD) being some of words."""
    for shape in shapes(many):
        for row in product(words, repeat=many):
            calls = [span + (0,) + call for span, call in zip(shape, row)]
            if len(free_of_twins(calls)) == many:
                yield (sort,), tuple(calls)


def together(calls, *more):
    """So many calls (WORD, GIVEN, TOLD) of one thing, all of which overlap."""
    row = tuple(calls)
    return tuple((at, len(row) + at, 0) + call for at, call in enumerate(row)) + more


def behind(calls):
    """Calls (WORD, GIVEN, TOLD) of one thing, each ahead of the next one."""
    return tuple((2 * at, 2 * at + 1, 0) + call for at, call in enumerate(calls))


PUT = (0, 1, 0, "put", 1, None)
# Pairs of what is no history, and what BadHistory tells of it.
NO_HISTORIES = tuple((thing, "form") for thing in (
    None, True, 0, -1, "", "cell", b"cell", [], {}, (), (("cell",),), [("cell",), ()], (["cell"], ()), (("cell",), []),
    (("cell",), (), ()), ("cell", ()), (("cell",), None), (None, ()), (("cell",), {}), ((), [], ()), Odd(), Same(),
    ("cell", "cell"), ([], []), ("ab",), len, ((("cell",), ()),),
)) + tuple((thing, "sorts") for thing in (
    ((), ()), ((), (None,)), (("cell",) * 5, ()), (("cells",), ()), (("",), ()), ((None,), ()), ((b"cell",), ()),
    (("cell", "queue", None), ()), ((("room", 0),), ()), ((("room", 10),), ()), ((("room", True),), ()),
    ((["room", 1],), ()), ((("room",),), ()), ((("room", 1, 1),), ()), (("room",), ()), ((("cell", 1),), ()),
    ((("room", "1"),), ()), ((("room", None),), ()), (((1, "room"),), ()), ((Same(),), ()), (((Same(), 1),), ()),
    ((["cell"],), ()), ((("cell",),), ()), ((("room", -1),), ()), ((0,), ()), (((),), ()), (("Cell",), ()),
    (("cells",), (None,)), (({},), ()), ((True,), ()), ((("room", Same()),), ()), (("cell ",), ()),
)) + tuple(((("queue",), calls), "calls") for calls in (
    (None,), (0,), ((),), ([],), (list(PUT),), (PUT[:5],), (PUT + (None,),), ("putput",), (Odd(),), (Same(),), (PUT, None),
    ((1, 1) + PUT[2:],), ((2, 1) + PUT[2:],), ((-1, 1) + PUT[2:],), ((0, TOP + 1) + PUT[2:],), ((False, 1) + PUT[2:],),
    ((0, True) + PUT[2:],), ((None, 1) + PUT[2:],), ((0, None) + PUT[2:],), (("0", 1) + PUT[2:],), ((0, (1,)) + PUT[2:],),
    ((0, 1, 1) + PUT[3:],), ((0, 1, -1) + PUT[3:],), ((0, 1, False) + PUT[3:],), ((0, 1, None) + PUT[3:],),
    ((0, 1, (0,)) + PUT[3:],), ((0, 1, Same()) + PUT[3:],), ((0, 1, 0, "Put", 1, None),), ((0, 1, 0, "write", 1, None),),
    ((0, 1, 0, None, 1, None),), ((0, 1, 0, b"put", 1, None),), ((0, 1, 0, ("put",), 1, None),),
    ((0, 1, 0, ["put"], 1, None),), ((0, 1, 0, Same(), 1, None),), ((0, 1, 0, "", 1, None),),
    ((0, 1, 0, "put", None, None),), ((0, 1, 0, "put", True, None),), ((0, 1, 0, "put", -1, None),),
    ((0, 1, 0, "put", TOP + 1, None),), ((0, 1, 0, "put", "1", None),), ((0, 1, 0, "put", 1, 1),),
    ((0, 1, 0, "put", 1, False),), ((0, 1, 0, "put", [1], None),), ((0, 1, 0, "put", Same(), None),),
    ((0, 1, 0, "take", 1, 1),), ((0, 1, 0, "take", None, True),), ((0, 1, 0, "take", None, -1),),
    ((0, 1, 0, "take", None, TOP + 1),), ((0, 1, 0, "take", None, "1"),), ((0, 1, 0, "take", None, ()),),
    ((0, 1, 0, "take", Same(), 1),), ((0, 1, 0, "take", None, Same()),), ((Same(), 1) + PUT[2:],),
    tuple((2 * at, 2 * at + 1, 0, "put", at, None) for at in range(11)), (PUT, PUT, None), (PUT,) * 11,
)) + tuple(((("queue",), calls), "moments") for calls in (
    ((2, 3, 0, "put", 1, None), (0, 1, 0, "put", 2, None)), (PUT, PUT), ((0, 2) + PUT[2:], (1, 2, 0, "put", 2, None)),
    (PUT, (1, 2, 0, "put", 2, None)), ((0, 5, 0, "put", 1, None), (0, 4, 0, "put", 2, None)),
    ((0, 9) + PUT[2:], (2, 3, 0, "take", None, 1), (1, 4, 0, "take", None, 2)), ((1, 2) + PUT[2:], (0, 3) + PUT[2:]),
    ((0, 3) + PUT[2:], (1, 2, 0, "take", None, 1), (3, 4) + PUT[2:]),
)) + ((((("queue",), (PUT, (2, 3) + PUT[2:]))), "twice"),
      (((("queue",), ((0, 9) + PUT[2:], (1, 2, 0, "take", None, 1), (3, 4, 0, "put", TOP, None), (5, 6) + PUT[2:]))),
       "twice"))


def matched(chance, sort, most, times):
    """So many histories of up to so many calls in which each value is put, and perhaps taken, not ahead of it."""
    made = 0
    while made < times:
        moments = list(range(2 * most))
        chance.shuffle(moments)
        spans = [tuple(sorted(moments[2 * at:2 * at + 2])) for at in range(chance.randrange(1, most + 1))]
        calls = []
        for value in range(most):
            if len(spans) > 1 and chance.randrange(4):
                put, take = sorted([spans.pop(), spans.pop()], key=lambda span: span[chance.randrange(2)])
                if take[1] < put[0]:
                    put, take = take, put
                calls += [put + (0, "put", value, None), take + (0, "take", None, value)]
            elif spans and chance.randrange(2):
                calls.append(spans.pop() + (0, "put", value, None))
            elif spans and chance.randrange(2):
                calls.append(spans.pop() + (0, "take", None, None))
        if calls:
            made += 1
            yield (sort,), tuple(sorted(calls))
