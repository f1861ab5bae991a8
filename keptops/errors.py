"""All errors of the program."""


class OperandError(ValueError):
    """The base class of all errors."""


class InvalidAnswers(OperandError):
    """A value is not a tuple of different answers."""


class InvalidCall(OperandError):
    """These are no kinds and answers for a call of the program."""


class InvalidCode(OperandError):
    """A value is not code."""


class InvalidEvents(OperandError):
    """A value is not a list of events."""


class InvalidExpression(OperandError):
    """A value is not an expression."""


class InvalidHistory(OperandError):
    """A value is not a history for the program, or not one of complete calls."""


class InvalidLook(OperandError):
    """A value is not a look of what a name holds."""


class InvalidMachine(OperandError):
    """A value is not a machine."""


class InvalidName(OperandError):
    """A value is not a name, or not one that stands here."""


class InvalidNumber(OperandError):
    """A value is not a number of this list."""


class InvalidPair(OperandError):
    """Two programs have different numbers of parameters."""


class InvalidParts(OperandError):
    """A value is not a dict from names to expressions."""


class InvalidPath(OperandError):
    """A value is not a path of the expression."""


class InvalidProgram(OperandError):
    """A value is not a program."""


class InvalidRun(OperandError):
    """A value is not a complete run."""


class InvalidScheme(OperandError):
    """A value is not a scheme."""


class InvalidSense(OperandError):
    """A value is not a sense in which a scheme may hold."""


class InvalidValue(OperandError):
    """A value is not one that could come out behind these events."""


class InvalidWorld(OperandError):
    """The kinds or the answers are wrong for the expression."""


class NoProgram(OperandError):
    """No program stands by this name."""


class NoUse(OperandError):
    """A scheme does not match the part, or its use is not allowed."""


class NotAlike(OperandError):
    """Two runs have different histories, or tell different things of them."""


class NotPure(OperandError):
    """An expression has event places."""


class NothingToUndo(OperandError):
    """A run has made no call."""


class TooLarge(OperandError):
    """The result exceeds a number that bounds expressions."""


class TooMany(OperandError):
    """There are too many inputs to go through all of them."""


class InvalidText(OperandError):
    """A text is not the text of an expression: from the character `index` on it goes wrong."""

    def __init__(self, index):
        OperandError.__init__(self, f"no text of an expression from character {index} on")
        self.index = index


class NoExpressionFor(OperandError):
    """No expression goes on with the event `index`, or ends behind all events with the value."""

    def __init__(self, index):
        OperandError.__init__(self, f"no expression goes on at event {index}")
        self.index = index


class InvalidLine(OperandError):
    """The line `line` of a text is wrong."""

    def __init__(self, line):
        OperandError.__init__(self, f"line {line} is wrong")
        self.line = line


class Wanting(OperandError):
    """The last one of the `events` of a call found no answer."""

    def __init__(self, events):
        OperandError.__init__(self, "an event found no answer")
        self.events = events


class Unused(OperandError):
    """A call leaves `count` of its answers unused."""

    def __init__(self, count):
        OperandError.__init__(self, f"{count} answers are left unused")
        self.count = count
