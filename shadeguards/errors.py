"""The errors that the package raises. Each keeps its arguments as they were given."""


class ShadeError(ValueError):
    """What most errors of the package are."""


class InvalidEntry(ShadeError):
    """An argument is not an entry of a table."""

    def __init__(self, index):
        self.index = index


class InvalidFresh(ShadeError):
    """The color for new objects is not a color."""

    def __init__(self, value):
        self.value = value


class InvalidRoots(ShadeError):
    """The word for the roots is neither "once" nor "again"."""

    def __init__(self, value):
        self.value = value


class InvalidHeap(ShadeError):
    """Something is not a heap."""


class InvalidRegisters(ShadeError):
    """Registers are too few, too many (-1), or one of them holds no object."""

    def __init__(self, index):
        self.index = index


class InvalidThreads(ShadeError):
    """Threads are too few, too many (-1), or one of them is not a thread."""

    def __init__(self, index):
        self.index = index


class InvalidState(ShadeError):
    """Something is not a state."""


class InvalidStep(ShadeError):
    """A step is refused."""

    def __init__(self, index, reason):
        self.index = index
        self.reason = reason


class InvalidCertificate(ShadeError):
    """A certificate does not show what it should."""

    def __init__(self, reason):
        self.reason = reason


class InvalidChange(ShadeError):
    """Something is not a change, or changes nothing."""

    def __init__(self, index):
        self.index = index


class InvalidGoal(ShadeError):
    """Something is not a goal."""

    def __init__(self, value):
        self.value = value


class ParseError(ShadeError):
    """A text is not of the written form."""

    def __init__(self, line, word):
        self.line = line
        self.word = word


class UnknownCommand(ShadeError):
    """A desk does not know the command."""

    def __init__(self, command):
        self.command = command


class Started(ShadeError):
    """The table of a cycle that has started cannot be changed."""


class Mismatch(ShadeError):
    """Two tables do not belong together."""


class NoObject(IndexError):
    """There is no object with this index."""

    def __init__(self, index):
        self.index = index


class NoInvariant(KeyError):
    """There is no invariant with this name."""

    def __init__(self, name):
        self.name = name


class NothingToUndo(LookupError):
    """So many steps cannot be taken back."""

    def __init__(self, count):
        self.count = count


class TooMany(OverflowError):
    """A search meets more states than its limit allows."""

    def __init__(self, limit):
        self.limit = limit
