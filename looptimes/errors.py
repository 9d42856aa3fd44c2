"""The errors of the package: each wrong call raises one of them."""


class LoopError(ValueError):
    """A wrong call; the other errors are its direct subclasses."""

    def __init__(self):
        ValueError.__init__(self)


class BadPart(LoopError):
    """Something that is no integer or number where one must be, or is one that cannot stand there."""

    def __init__(self, part):
        self.part = part


class BadText(LoopError):
    """A text of which the line with this number cannot stand where it stands."""

    def __init__(self, line):
        self.line = line


class BadTask(LoopError):
    """A list of tasks in which the item with this index is wrong."""

    def __init__(self, index):
        self.index = index


class BadCounter(LoopError):
    """A list of counters in which the item with this index is wrong."""

    def __init__(self, index):
        self.index = index


class BadLate(LoopError):
    """A lateness that is not an integer from 0 to 99."""

    def __init__(self, late):
        self.late = late


class BadRow(LoopError):
    """A wrong row: the name of its task, its number and the reason."""

    def __init__(self, task, place, reason):
        self.task = task
        self.place = place
        self.reason = reason


class UnknownTask(LoopError):
    """Something that is not the name of a task."""

    def __init__(self, name):
        self.name = name


class BadPlace(LoopError):
    """Something that is not the number of a row that can be meant."""

    def __init__(self, place):
        self.place = place


class BadEvent(LoopError):
    """A list of events in which the item with this index cannot come next."""

    def __init__(self, index):
        self.index = index


class BadShift(LoopError):
    """A shift that is not a number from 0 on and below 1."""

    def __init__(self, shift):
        self.shift = shift


class BadWish(LoopError):
    """Something that is not a wish."""


class BadRun(LoopError):
    """Something that is not a run."""


class BadWeights(LoopError):
    """A list of weights in which the item with this index is wrong."""

    def __init__(self, index):
        self.index = index


class BadWord(LoopError):
    """Something that is not a word where one must be."""

    def __init__(self, word):
        self.word = word
