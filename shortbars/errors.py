"""The errors of the package: each one keeps what it was made with, and nothing else."""


class CallError(ValueError):
    """Something that was passed is refused."""


class BadPaper(CallError):
    """What was passed is no paper that holds: part tells its form or its word."""

    def __init__(self, part):
        self.part = part


class BadTerm(CallError):
    """What stands at this path is no term."""

    def __init__(self, path):
        self.path = path


class BadText(CallError):
    """What was passed cannot be read from this word of this line on."""

    def __init__(self, line, word):
        self.line = line
        self.word = word


class BadHistory(CallError):
    """What was passed is no history that can stand there: given tells what it lacks."""

    def __init__(self, given):
        self.given = given


class BadOrder(CallError):
    """What was passed is no order that can stand there."""

    def __init__(self, given):
        self.given = given


class BadLot(CallError):
    """What was passed is no ascending tuple of numbers of calls."""

    def __init__(self, given):
        self.given = given


class BadThing(CallError):
    """What was passed is no number of a thing that can stand there."""

    def __init__(self, given):
        self.given = given


class BadNumber(CallError):
    """What was passed is no number that can stand there."""

    def __init__(self, given):
        self.given = given


class BadValue(CallError):
    """What was passed is no value that can stand there."""

    def __init__(self, given):
        self.given = given


class BadValues(CallError):
    """What was passed is no ascending tuple of values that can stand there."""

    def __init__(self, given):
        self.given = given


class BadRenaming(CallError):
    """What was passed does not rename the values of the thing."""

    def __init__(self, given):
        self.given = given


class BadTurn(CallError):
    """What was passed is no turn that can stand there."""

    def __init__(self, given):
        self.given = given


class BadRow(CallError):
    """What was passed is no row of the history."""

    def __init__(self, given):
        self.given = given


class BadPile(CallError):
    """What was passed is no pile of the history."""

    def __init__(self, given):
        self.given = given


class BadMoment(CallError):
    """What was passed is no moment that can stand there."""

    def __init__(self, given):
        self.given = given


class BadSort(CallError):
    """What was passed is no sort that can stand there."""

    def __init__(self, given):
        self.given = given


class BadSorts(CallError):
    """What was passed is no tuple of sorts."""

    def __init__(self, given):
        self.given = given


class BadParts(CallError):
    """What was passed are no parts of the history."""

    def __init__(self, given):
        self.given = given


class BadLog(CallError):
    """What was passed is no log."""

    def __init__(self, given):
        self.given = given


class BadHands(CallError):
    """What was passed does not deal the calls to hands."""

    def __init__(self, given):
        self.given = given


class BadStanding(CallError):
    """What was passed is no live standing."""

    def __init__(self, given):
        self.given = given


class BadQuestion(CallError):
    """What was passed is no question to the history."""

    def __init__(self, given):
        self.given = given


class BadTold(CallError):
    """What was passed cannot be told by the call."""

    def __init__(self, given):
        self.given = given


class BadPlace(CallError):
    """What was passed is no bare place."""

    def __init__(self, given):
        self.given = given


class BadWord(CallError):
    """What was passed is no word of the thing."""

    def __init__(self, given):
        self.given = given


class BadGiven(CallError):
    """What was passed cannot be given to the call."""

    def __init__(self, given):
        self.given = given


class NotExplained(CallError):
    """The history that was passed is not explained."""

    def __init__(self, given):
        self.given = given


class TooMany(OverflowError):
    """More was passed than the most that is looked at."""

    def __init__(self, most):
        self.most = most


class Missing(KeyError):
    """What was asked for is not there."""

    def __init__(self, given):
        self.given = given


class NothingLeft(RuntimeError):
    """There are not so many steps to take back."""

    def __init__(self, many):
        self.many = many
