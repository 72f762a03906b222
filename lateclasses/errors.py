"""The errors of the package. Each one stores the objects that it is made from."""


class ClassError(Exception):
    """The base class of all errors of the package."""


class InvalidName(ClassError):
    """What was given is not a name that may stand there."""

    def __init__(self, given):
        self.given = given


class InvalidMethod(ClassError):
    """What was given does not fit into a method, or is none."""

    def __init__(self, given):
        self.given = given


class InvalidClass(ClassError):
    """What was given does not fit into a class text, or is none."""

    def __init__(self, given):
        self.given = given


class InvalidTable(ClassError):
    """What was given is not a right table."""

    def __init__(self, given):
        self.given = given


class NameTaken(ClassError):
    """The name that was given is used already."""

    def __init__(self, given):
        self.given = given


class UnknownLoader(ClassError):
    """What was given is not the name of a loader that may stand there."""

    def __init__(self, given):
        self.given = given


class UnknownClass(ClassError):
    """The loader has no class of this word."""

    def __init__(self, loader, word):
        self.loader = loader
        self.word = word


class NameFixed(ClassError):
    """The loader cannot change any more what this word means."""

    def __init__(self, loader, word):
        self.loader = loader
        self.word = word


class LimitExceeded(ClassError):
    """There would be more than the limit allows."""

    def __init__(self, limit):
        self.limit = limit


class Failing(ClassError):
    """What was asked for ends in a failure."""

    def __init__(self, failure):
        self.failure = failure


class ParseError(ClassError):
    """The text is wrong in this line."""

    def __init__(self, line):
        self.line = line


class InvalidValues(ClassError):
    """What was given are not the values of a run."""

    def __init__(self, given):
        self.given = given


class InvalidChoices(ClassError):
    """What was given are not the choices of a run."""

    def __init__(self, given):
        self.given = given


class InvalidLimit(ClassError):
    """What was given is not the limit of a run."""

    def __init__(self, given):
        self.given = given


class InvalidOperand(ClassError):
    """What was given cannot stand beside this operator."""

    def __init__(self, given):
        self.given = given


class InvalidJournal(ClassError):
    """What was given is not a journal, or none that is accepted."""

    def __init__(self, given):
        self.given = given


class InvalidCommand(ClassError):
    """What was given is not a command."""

    def __init__(self, given):
        self.given = given


class UnknownName(ClassError):
    """What was given is not the name of anything here."""

    def __init__(self, given):
        self.given = given


class NotLoaded(ClassError):
    """What was given is not a loaded identity."""

    def __init__(self, given):
        self.given = given
