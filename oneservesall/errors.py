"""The errors of the program: each carries the value that it complains of."""


class TellError(ValueError):
    """Any error of the program."""

    def __init__(self, value):
        self.value = value


class InvalidNumber(TellError):
    """What should be a number, or a number within bounds, is none."""


class InvalidChances(TellError):
    """What should be a draw or a row of chances is none, or its sum is not 1."""


class InvalidScheme(TellError):
    """What should be a scheme is none."""


class InvalidRatio(TellError):
    """What should be a ratio above 0 and at most 1 is none."""


class InvalidAsker(TellError):
    """What should be an asker, or an asker of this size, is none."""


class InvalidReading(TellError):
    """What should be a reading is none."""


class InvalidPaper(TellError):
    """What should be a told answer that can be judged has another form."""


class InvalidIndex(TellError):
    """There is nothing at this place."""


class InvalidPair(TellError):
    """Two things do not fit each other."""


class InvalidWish(TellError):
    """A must has a kind that is none."""


class InvalidForm(TellError):
    """What should be a form is none."""


class InvalidSchema(TellError):
    """What should be a schema is none."""


class InvalidPerson(TellError):
    """What should be a person of a schema is none."""


class InvalidTable(TellError):
    """What should be a table of a schema is none."""


class InvalidTerm(TellError):
    """What should be a term of a schema is none."""


class InvalidTest(TellError):
    """What should be a test of a schema is none."""


class InvalidQuestion(TellError):
    """What should be a question of a schema is none."""


class InvalidRelease(TellError):
    """What should be a release of a schema is none."""


class InvalidTree(TellError):
    """What should be a tree of a schema is none."""


class InvalidLimit(TellError):
    """What should be a ledger's limit is none."""


class InvalidLot(TellError):
    """What should be a lot from 0 on below 1 is none."""


class InvalidOutputs(TellError):
    """What should be the outputs of releases are none."""


class InvalidName(TellError):
    """What should be a new name is none."""


class Overdrawn(TellError):
    """A ledger has less left than a release costs."""


class UnknownName(TellError):
    """Nothing has this name."""


class WrongKind(TellError):
    """What has this name is of the other kind."""


class NothingToUndo(TellError):
    """There is nothing to take back."""


class Unreadable(TellError):
    """A text is not as it would be shown."""


class Unorderly(TellError):
    """A text is no order."""


class InvalidBits(TellError):
    """What should be bits, each 0 or 1, are none."""


class NoFactor(TellError):
    """A scheme has no factor: an answer is 0 in one of two neighbours alone."""


class NoReading(TellError):
    """A scheme is no reading of the ladder: it bends too much."""


class DividedByZero(TellError):
    """A number is to be divided by 0."""
