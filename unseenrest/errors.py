"""The errors of the package, all of them: also those that only later modules raise."""


class RestError(ValueError):
    """The base class of the errors about values that cannot be."""


class Missing(LookupError):
    """The base class of the errors about names and pieces that are not there."""


class InvalidName(RestError):
    """A value that is no name stands where a name must stand."""

    def __init__(self, value):
        self.value = value
        self.code = "InvalidName"


class InvalidNumber(RestError):
    """A value is no number within its bounds."""

    def __init__(self, value):
        self.value = value
        self.code = "InvalidNumber"


class InvalidTable(RestError):
    """A table is none of a structure: -1 for its length, otherwise the index where it breaks."""

    def __init__(self, at):
        self.at = at
        self.code = "InvalidTable"


class InvalidBases(RestError):
    """A value is no bases: the index of the item that cannot stand there."""

    def __init__(self, at):
        self.at = at
        self.code = "InvalidBases"


class InvalidMark(RestError):
    """A value is no number of an unseen element, or stands among the marks again."""

    def __init__(self, value):
        self.value = value
        self.code = "InvalidMark"


class InvalidFrame(RestError):
    """Structures, gaps and spares make no frame."""

    def __init__(self):
        self.code = "InvalidFrame"


class InvalidStep(RestError):
    """The value at a path is no step that may stand there."""

    def __init__(self, path):
        self.path = path
        self.code = "InvalidStep"


class InvalidTurn(RestError):
    """A dual stands within an if."""

    def __init__(self, path):
        self.path = path
        self.code = "InvalidTurn"


class UnlikeEnds(RestError):
    """The parts of an if end with different names."""

    def __init__(self, path):
        self.path = path
        self.code = "UnlikeEnds"


class InvalidText(RestError):
    """A text has a word that cannot stand there, or ends too early."""

    def __init__(self, word):
        self.word = word
        self.code = "InvalidText"


class InvalidFact(RestError):
    """A value is no fact with known names."""

    def __init__(self, at):
        self.at = at
        self.code = "InvalidFact"


class InvalidCommand(RestError):
    """A value is no command of a shelf."""

    def __init__(self, at):
        self.at = at
        self.code = "InvalidCommand"


class InvalidPage(RestError):
    """A text is no page of a shelf."""

    def __init__(self, line):
        self.line = line
        self.code = "InvalidPage"


class InvalidLimit(RestError):
    """A value is no limit that a shelf can have."""

    def __init__(self, value):
        self.value = value
        self.code = "InvalidLimit"


class DuplicateName(RestError):
    """A name or a piece is given that stands there before."""

    def __init__(self, name):
        self.name = name
        self.code = "DuplicateName"


class UnlikeNames(RestError):
    """Two things that must have the same names have not."""

    def __init__(self):
        self.code = "UnlikeNames"


class UnlikeTurns(RestError):
    """One script is turned and the other one is not."""

    def __init__(self):
        self.code = "UnlikeTurns"


class Circular(RestError):
    """A piece is used within itself."""

    def __init__(self, piece):
        self.piece = piece
        self.code = "Circular"


class InUse(RestError):
    """A piece cannot go or change, as another one needs it."""

    def __init__(self, piece, user):
        self.piece = piece
        self.user = user
        self.code = "InUse"


class Full(RestError):
    """A shelf has as many pieces as its limit allows."""

    def __init__(self, limit):
        self.limit = limit
        self.code = "Full"


class TooDeep(RestError):
    """A step stands deeper than steps may."""

    def __init__(self, most):
        self.most = most
        self.code = "TooDeep"


class TooMany(RestError):
    """There are more of something than may be."""

    def __init__(self, subject, most):
        self.subject = subject
        self.most = most
        self.code = "TooMany"


class NoStructure(RestError):
    """No structure keeps the facts."""

    def __init__(self):
        self.code = "NoStructure"


class UnknownName(Missing):
    """A name is none of a named element."""

    def __init__(self, name):
        self.name = name
        self.code = "UnknownName"


class UnknownPiece(Missing):
    """A piece is not given."""

    def __init__(self, piece):
        self.piece = piece
        self.code = "UnknownPiece"


class NothingLeft(IndexError):
    """There is no step to undo or to redo."""

    def __init__(self):
        self.code = "NothingLeft"
