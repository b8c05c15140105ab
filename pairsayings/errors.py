"""The errors of the package: all derive directly from SayingError."""


class SayingError(ValueError):
    """What every error of the package is."""

    def __init__(self):
        # Without this Python would take any arguments for the classes without fields.
        pass


class NoSaying(SayingError):
    """What was passed is no saying of the tongue."""


class NotClosed(SayingError):
    """A name is free in a saying that must be closed."""


class NoThing(SayingError):
    """What was passed is no thing of the world."""


class NoText(SayingError):
    """What was passed is no text of a saying of the tongue."""


class NoThings(SayingError):
    """The number of things is not as told."""


class NoWeights(SayingError):
    """What was passed are no weights of the tongue's names."""


class NoChance(SayingError):
    """What is given has no weight."""


class NoPart(SayingError):
    """The name y is free in a saying of one thing."""


class NoFacts(SayingError):
    """What was passed are no facts about so many things."""


class NoNumber(SayingError):
    """There is no world with this number."""


class HasFunctions(SayingError):
    """The tongue has a function where none may be."""


class NotHeld(SayingError):
    """The saying does not hold in the world."""


class NotLike(SayingError):
    """The things are one thing or are not like."""


class NoGiven(SayingError):
    """What was passed is no sequence of given sayings."""


class NoTie(SayingError):
    """What was passed is no tie of the tongue."""


class OtherTongue(SayingError):
    """The other tongue has not as many marks and ties."""


class NoMark(SayingError):
    """What was passed is no mark of the tongue."""


class TooMany(SayingError):
    """The hall keeps as many sayings as it may."""


class NoSaid(SayingError):
    """The hall keeps no saying with this index."""


class NoUndo(SayingError):
    """There is nothing that can be taken back."""


class NoStep(SayingError):
    """What was passed is no sequence of steps."""


class NoLine(SayingError):
    """What was passed is no line that the desk reads."""


class NoTongue(SayingError):
    """The argument of a tongue that the word names is not as told."""

    def __init__(self, word):
        self.word = word


class NoWorld(SayingError):
    """The argument of a world that the word names is not as told."""

    def __init__(self, word):
        self.word = word


class NoName(SayingError):
    """The desk keeps no saying with this name."""

    def __init__(self, name):
        self.name = name
