"""What many tests do: look at what is refused, and at what every function promises."""

from copy import deepcopy

from samples import NO_HISTORIES, ODD
from shortbars import errors


def fields(error):
    """The attributes of an error, with its class."""
    return error.__class__, dict(vars(error))


def outcome(function, *things):
    """What a call returns, or the error that it raises: pairs that can be compared."""
    try:
        return "returned", function(*things)
    except (errors.CallError, errors.TooMany, errors.Missing, errors.NothingLeft) as error:
        return "raised", fields(error)


def is_plain(thing):
    """Whether it is made of plain tuples, strings and integers, True, False and None alone."""
    if type(thing) is tuple:
        return all(is_plain(part) for part in thing)
    return thing is None or type(thing) in (int, str, bool)


def alike(thing, other):
    """Whether two things are equal, True and False being equal to no integer."""
    if type(thing) is tuple and type(other) is tuple:
        return len(thing) == len(other) and all(alike(one, two) for one, two in zip(thing, other))
    return type(thing) is type(other) and thing == other


class Checks:
    """Beside unittest.TestCase."""

    def tells(self, wanted, function, *things):
        """The call returns just this, of just these classes."""
        got = function(*things)
        self.assertTrue(alike(got, wanted), (function.__name__, things, got, wanted))

    def refuses(self, error, given, function, *things):
        """The call raises just this class of error, with what is given as its one attribute."""
        try:
            got = function(*things)
        except error as refusal:
            self.assertIs(refusal.__class__, error, (function.__name__, things))
            kept = list(vars(refusal).values())
            self.assertEqual(len(kept), 1)
            # What was refused is what the error has, be it equal to whatever there is.
            self.assertTrue(kept[0] is given or alike(kept[0], given), (function.__name__, things, kept))
        else:
            self.fail((function.__name__, things, got))

    def refuses_odd(self, error, is_right, function, before, behind=()):
        """Of all odd things in one place those that are not right are refused by this error, no others."""
        for thing in ODD:
            if is_right(thing):
                outcome_of = outcome(function, *before, thing, *behind)
                self.assertTrue(outcome_of[0] == "returned" or outcome_of[1][0] is not error, (thing, outcome_of))
            else:
                self.refuses(error, thing, function, *before, thing, *behind)

    def refuses_histories(self, function, *behind):
        """What is no history is refused ahead of all else."""
        for thing, part in NO_HISTORIES:
            self.refuses(errors.BadHistory, part, function, thing, *behind)

    def refuses_sorts(self, function, good, *behind):
        """Histories of other sorts, and of several things, are refused."""
        calls = {
            "cell": ((0, 1, 0, "write", 1, None),), "queue": ((0, 1, 0, "put", 1, None),),
            "stack": ((0, 1, 0, "put", 1, None),), "heads": ((0, 1, 0, "put", 1, None),),
            "counter": ((0, 1, 0, "add", None, None),), "tickets": ((0, 1, 0, "draw", None, 0),),
            "set": ((0, 1, 0, "join", 1, None),), ("room", 1): ((0, 1, 0, "enter", 1, None),), ("room", 9): (),
        }
        for sort, row in calls.items():
            if sort not in good:
                self.refuses(errors.BadHistory, "sort", function, ((sort,), row), *behind)
                self.refuses(errors.BadHistory, "sort", function, ((sort,), ()), *behind)
        for sort in good:
            self.refuses(errors.BadHistory, "sort", function, ((sort, sort), ()), *behind)
            self.refuses(errors.BadHistory, "sort", function, ((sort, "cell"), ()), *behind)
            self.refuses(errors.BadHistory, "sort", function, (("set", sort), ()), *behind)

    def is_pure(self, function, *things):
        """No argument changes, two equal calls come to the same, and what is told is plain; what they came to."""
        copies = deepcopy(things)
        first = outcome(function, *things)
        self.assertEqual(things, copies)
        second = outcome(function, *copies)
        self.assertEqual(first, second)
        if first[0] == "returned":
            self.assertTrue(alike(first[1], second[1]), (function.__name__, things))
            self.assertTrue(is_plain(first[1]), (function.__name__, first))
        return first
