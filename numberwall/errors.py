"""All errors of the package. Each keeps its fields just as they are passed."""


class WallError(ValueError):
    """What all other errors of the package are."""


class BadNumber(WallError):
    """A number, told by what it is for, that is not as described."""

    def __init__(self, what, number):
        self.what = what
        self.number = number


class BadProgram(WallError):
    """Steps that are no row (None), or the place of the first wrong one."""

    def __init__(self, index):
        self.index = index


class BadConfiguration(WallError):
    """What is no configuration."""

    def __init__(self, configuration):
        self.configuration = configuration


class BadStep(WallError):
    """The place of a wrong step."""

    def __init__(self, index):
        self.index = index


class BadLot(WallError):
    """What is no Lot, or not such a one."""

    def __init__(self, lot):
        self.lot = lot


class BadFormula(WallError):
    """What is no formula."""

    def __init__(self, formula):
        self.formula = formula


class BadReads(WallError):
    """What are no reads."""

    def __init__(self, reads):
        self.reads = reads


class Unlike(WallError):
    """What two things do not have alike."""

    def __init__(self, what):
        self.what = what


class TooMany(WallError):
    """More than the most that there may be."""

    def __init__(self, most):
        self.most = most


class NotOfKind(WallError):
    """Why something is not of the kind that is asked for."""

    def __init__(self, why):
        self.why = why


class BadText(WallError):
    """The column at which a text is wrong, 0 for what is no string."""

    def __init__(self, column):
        self.column = column


class BadLine(WallError):
    """The line and the column at which a text is wrong, 0 and 0 for what is no string."""

    def __init__(self, line, column):
        self.line = line
        self.column = column


class BadName(WallError):
    """What is no name."""

    def __init__(self, name):
        self.name = name


class NoName(WallError):
    """A name that nothing has."""

    def __init__(self, name):
        self.name = name


class TakenName(WallError):
    """A name that something has already."""

    def __init__(self, name):
        self.name = name


class NotKept(WallError):
    """A promise that is not kept, and what shows it."""

    def __init__(self, promise, witness):
        self.promise = promise
        self.witness = witness


class NothingToUndo(WallError):
    """There is no edit to take back."""


class NothingToRedo(WallError):
    """There is no edit to make again."""
