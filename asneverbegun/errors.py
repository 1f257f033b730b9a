"""The errors of the package: each keeps its constructor arguments in attributes."""


class WorkError(ValueError):
    """The base class of what can be wrong with a value that is passed."""


class InvalidDeed(WorkError):
    """An argument of a deed is wrong: the one with the name `word`."""

    def __init__(self, word):
        self.word = word


class InvalidWorld(WorkError):
    """An argument of a world is wrong: the one with the name `word`."""

    def __init__(self, word):
        self.word = word


class InvalidPlan(WorkError):
    """An argument of a plan is wrong: the one with the name `word`."""

    def __init__(self, word):
        self.word = word


class InvalidSystem(WorkError):
    """An argument of a system is wrong: the one with the name `word`."""

    def __init__(self, word):
        self.word = word


class InvalidText(WorkError):
    """A text is not of its form: `at` is the number of the line."""

    def __init__(self, at):
        self.at = at


class InvalidScene(WorkError):
    """A value is no scene, or none that is wanted."""

    def __init__(self):
        pass


class InvalidEvent(WorkError):
    """Something in a history is no event: `at` is its index."""

    def __init__(self, at):
        self.at = at


class InvalidLog(WorkError):
    """Something in a log is no entry: `at` is its index."""

    def __init__(self, at):
        self.at = at


class InvalidHarm(WorkError):
    """A value is no harm, or none that is wanted."""

    def __init__(self):
        pass


class InvalidTimes(WorkError):
    """An argument of times is wrong: the one with the name `word`."""

    def __init__(self, word):
        self.word = word


class InvalidCompany(WorkError):
    """A company does not fit together: `word` tells what is wrong."""

    def __init__(self, word):
        self.word = word


class InvalidBook(WorkError):
    """An argument of a book is wrong: the one with the name `word`."""

    def __init__(self, word):
        self.word = word


class InvalidCommand(WorkError):
    """A desk does not know such a command."""

    def __init__(self):
        pass


class Refused(WorkError):
    """An event is not possible: `at` is its index."""

    def __init__(self, at):
        self.at = at


class NoName(KeyError):
    """Nothing has the name `name`."""

    def __init__(self, name):
        self.name = name


class NoLine(IndexError):
    """There is no (such) line with the number `at`."""

    def __init__(self, at):
        self.at = at
