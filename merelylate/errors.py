"""The errors of the package, each with the fields that tell what is wrong."""


class MillError(ValueError):
    """The base class of all errors of the package."""


class BadMill(MillError):
    """No mill: `part` is the first of its parts that is wrong."""

    def __init__(self, part):
        self.part = part


class BadColumns(MillError):
    """No tuple of columns: `index` is the first that is no column, or None."""

    def __init__(self, index):
        self.index = index


class BadTick(MillError):
    """No tick at which the columns given tell all that the equations read."""


class BadLetters(MillError):
    """No letter, or no word of letters, of the mill."""


class BadWindow(MillError):
    """No window of the mill."""


class BadNumber(MillError):
    """A number that is not allowed."""


class BadLate(MillError):
    """No late mill: `index` is the first state that is wrong, or None."""

    def __init__(self, index):
        self.index = index


class NotHonest(MillError):
    """The mill has a paradox or a free choice."""


class NotAlike(MillError):
    """Mills that do not go together."""


class BadStep(MillError):
    """A step that a bench cannot take."""


class TooMany(MillError):
    """More than the `most` things that are looked at come."""

    def __init__(self, most):
        self.most = most


class BadText(MillError):
    """No text of a mill: `line` is the first line that is wrong."""

    def __init__(self, line):
        self.line = line


class BadWords(MillError):
    """No words for the names of the mill."""


class BadSplit(MillError):
    """No split of the mill's letters."""


class BadWeights(MillError):
    """No weights for the mill's letters."""


class BadEager(MillError):
    """No eager mill: `index` is the first state that is wrong, or None."""

    def __init__(self, index):
        self.index = index
