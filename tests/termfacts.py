"""What the document says of terms, straight from its words, for the tests to compare with."""

from samples import ONCE, TOP, grown, wild

SORTS = ("cell", "queue", "stack", "heads", "counter", "tickets", "set", ("room", 1), ("room", 2))
KIDS = {"history": 0, "beside": 2, "behind": 2, "shifted": 1, "plain": 1, "thing": 1, "without": 1}


def is_right(history):
    """Whether it is a history, its calls being right one by one."""
    sorts, calls = history
    moments = [moment for call in calls for moment in call[:2]]
    once = [call[2:5] for call in calls if call[3] in ONCE]
    return len(sorts) <= 4 and len(calls) <= 10 and len(set(moments)) == len(moments) and max(moments, default=0) <= TOP \
        and len(set(once)) == len(once)


def history_of(term):
    """The history of a term of the right form, None of what is no term."""
    word = term[0]
    kids = [history_of(kid) for kid in term[1:1 + KIDS[word]]]
    if None in kids:
        return None
    made = term[1] if word == "history" else MAKERS[word](*kids, *term[1 + KIDS[word]:])
    return made if made is not None and is_right(made) else None


def beside(one, two):
    calls = one[1] + tuple(call[:2] + (len(one[0]) + call[2],) + call[3:] for call in two[1])
    return one[0] + two[0], tuple(sorted(calls, key=lambda call: call[0]))


def behind(one, two):
    if one[0] != two[0]:
        return None
    more = max(call[1] for call in one[1]) + 1 if one[1] else 0
    return one[0], one[1] + shifted(two, more)[1]


def shifted(history, more):
    return history[0], tuple((call[0] + more, call[1] + more) + call[2:] for call in history[1])


def plain(history):
    moments = sorted(moment for call in history[1] for moment in call[:2])
    return history[0], tuple((moments.index(call[0]), moments.index(call[1])) + call[2:] for call in history[1])


def thing(history, number):
    if number >= len(history[0]):
        return None
    return (history[0][number],), tuple(call[:2] + (0,) + call[3:] for call in history[1] if call[2] == number)


def without(history, number, some):
    if number >= len(history[0]) or history[0][number] in ("counter", "tickets"):
        return None
    return history[0], tuple(call for call in history[1]
                             if call[2] != number or (call[4] if call[4] is not None else call[5]) not in some)


MAKERS = {"beside": beside, "behind": behind, "shifted": shifted, "plain": plain, "thing": thing, "without": without}


def any_history(chance, sorts=None):
    if sorts is None:
        sorts = tuple(chance.choice(SORTS) for _ in range(chance.choice((1, 1, 1, 2, 3))))
    if chance.randrange(3):
        return grown(chance, sorts, chance.randrange(6), 6, chance.choice((2, 9, 25)))
    return wild(chance, sorts, chance.randrange(5), 6)


def any_term(chance, deep):
    """A term of the right form by chance, that may be none."""
    word = "history" if deep == 0 else chance.choice(list(KIDS))
    if word == "history":
        return ("history", any_history(chance))
    kid = any_term(chance, deep - 1)
    if word == "beside":
        other = any_term(chance, deep - 1)
        return (word, kid, ("shifted", other, chance.choice((0, 40, 100)))) if chance.randrange(4) else (word, kid, other)
    if word == "behind":
        sorts = history_of(kid) and history_of(kid)[0]
        return (word, kid, ("history", any_history(chance, sorts)) if chance.randrange(4) else any_term(chance, deep - 1))
    if word == "shifted":
        return (word, kid, chance.choice((0, 1, 7, 300, TOP - 5, TOP)) if chance.randrange(3) == 0 else chance.randrange(99))
    if word == "plain":
        return (word, kid)
    if word == "thing":
        return (word, kid, chance.choice((0, 0, 0, 1, 2, 3)))
    some = tuple(sorted(chance.sample(range(7), chance.randrange(4))))
    return (word, kid, chance.choice((0, 0, 0, 1, 3)), some)


def kids(term):
    return term[1:1 + KIDS[term[0]]]


def words_in(term):
    return 1 + sum(words_in(kid) for kid in kids(term))


def depth(term):
    return 1 + max([depth(kid) for kid in kids(term)], default=0)


def first_wrong(term, path=()):
    """The path to the first term in it that has no history, what stands in each ahead of it; None if all have one."""
    for at, kid in enumerate(kids(term), 1):
        wrong = first_wrong(kid, path + (at,))
        if wrong is not None:
            return wrong
    return path if history_of(term) is None else None
