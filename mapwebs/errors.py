"""The errors of the package: each tells by its class what is wrong."""


class WebError(ValueError):
    """What all errors of the package derive from."""

    def __init__(self):
        """Nothing is kept but what a class below names as its fields."""


class BadTable(WebError):
    """No table can be made so: the part that is wrong."""

    def __init__(self, part):
        self.part = part


class BadWeb(WebError):
    """No web can be made so: the part that is wrong."""

    def __init__(self, part):
        self.part = part


class BadPicture(WebError):
    """No picture can be made so: the part that is wrong."""

    def __init__(self, part):
        self.part = part


class BadTower(WebError):
    """No tower can be made so: the number of the first cell that is none."""

    def __init__(self, index):
        self.index = index


class BadAnswer(WebError):
    """An asker told no column of worths for this arrow and column."""

    def __init__(self, arrow, column):
        self.arrow = arrow
        self.column = column


class BadText(WebError):
    """A text is of no picture: the first line without the form due there."""

    def __init__(self, line):
        self.line = line


class TooMany(WebError):
    """There are more columns to ask of than the most that are asked."""

    def __init__(self, most):
        self.most = most


class NoName(WebError):
    """No picture is kept under this name."""

    def __init__(self, name):
        self.name = name


class NoColumn(WebError):
    """It is no column of as many worths as are due."""


class NoFit(WebError):
    """The tables do not fit together, or one is not as high as wide."""


class NoNumber(WebError):
    """It is no integer, or none within the bounds."""


class NoPrime(WebError):
    """It is none of the primes."""


class NoPolynomial(WebError):
    """It is no polynomial of the form that is due."""


class OtherWeb(WebError):
    """Two pictures are of unlike webs or primes."""


class NoLeading(WebError):
    """It is no leading, or no tuple of tables that fit."""


class NoPictures(WebError):
    """It is no list or tuple of pictures of the web and prime."""


class NoBases(WebError):
    """It is no tuple of tables that can be undone, one for each place."""


class NoPieces(WebError):
    """It is no list or tuple of pieces."""


class NoRow(WebError):
    """It is no row of the web, or none of those that are due."""


class Endless(WebError):
    """The web has endlessly many pieces."""


class Finite(WebError):
    """The web has finitely many pieces."""


class NoTurn(WebError):
    """It is no place at which pictures can be turned."""


class NoWord(WebError):
    """It is no short string of the two signs of a line."""


class NoLine(WebError):
    """The web is no line, or a desk's line has none of its forms."""


class NoStretch(WebError):
    """It is no begin and end of places of the line."""


class NoReaches(WebError):
    """It is no dict from just the stretches to numbers."""


class NoStops(WebError):
    """It is no ascending tuple of moments."""


class NoExchange(WebError):
    """The first cell is a face of the second one."""


class NoBars(WebError):
    """It is no bar list."""


class NoKind(WebError):
    """It is no kind of pencil of this prime."""


class NoPencil(WebError):
    """The picture is no pencil."""


class NoSizes(WebError):
    """It is no tuple with a size for each place."""


class NothingDone(WebError):
    """There is nothing left that could be taken back."""
