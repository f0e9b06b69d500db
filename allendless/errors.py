"""The errors of the package."""


class AllendlessError(ValueError):
    """The one base class of all errors that the package raises."""

    def short_name(self):
        """The name of the error's class in small letters."""
        return self.__class__.__name__.lower()


class TooGreat(AllendlessError):
    """Something is beyond a bound; what it is, is told by a word."""

    def __init__(self, what):
        self.what = what


class BadText(AllendlessError):
    """A text that is no term and no kind; where it is wrong."""

    def __init__(self, position):
        self.position = position


class BadTerm(AllendlessError):
    """A value that is no right term; where it has its first fault, and which."""

    def __init__(self, path, word):
        self.path = path
        self.word = word


class NotThere(AllendlessError):
    """A path that leads to no term."""

    def __init__(self, path):
        self.path = path


class WrongKind(AllendlessError):
    """Something is of another kind than is wanted."""


class OutOfRange(AllendlessError):
    """A number that numbers nothing here."""

    def __init__(self, number):
        self.number = number


class BadNumber(AllendlessError):
    """A number that cannot stand where it stands."""

    def __init__(self, number):
        self.number = number


class NotSearchable(AllendlessError):
    """A kind that cannot be searched."""

    def __init__(self, kind):
        self.kind = kind


class NoSign(AllendlessError):
    """A digit of a root that is not settled; its number."""

    def __init__(self, number):
        self.number = number


class BadSide(AllendlessError):
    """A side of a game that makes a move which it must not make."""

    def __init__(self, side):
        self.side = side


class BadName(AllendlessError):
    """Something that is no name."""

    def __init__(self, name):
        self.name = name


class NameTaken(AllendlessError):
    """A name that is defined already."""

    def __init__(self, name):
        self.name = name


class Unknown(AllendlessError):
    """A name that is not defined."""

    def __init__(self, name):
        self.name = name


class NothingDefined(AllendlessError):
    """There is no definition that could be dropped."""


class NothingToUndo(AllendlessError):
    """There is no change that could be taken back."""


class NothingToRedo(AllendlessError):
    """There is no change that could be done again."""
