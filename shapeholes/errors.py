"""All errors of the package, in the order of the document."""


class ShapeError(ValueError):
    """The base class of all errors of the package."""


# Complexes and their parts.

class NotComplex(ShapeError):
    """A value that should be a complex is none."""


class BadSimplices(ShapeError):
    """A complex is asked for from what is no tuple of at most 400 simplices."""

    def __init__(self, index):
        self.index = index


class TooMany(ShapeError):
    """A result would have more parts than the most that are allowed."""

    def __init__(self, most):
        self.most = most


class BadSimplex(ShapeError):
    """A value is no simplex of the complex."""


class BadVertex(ShapeError):
    """A value is no vertex of the complex."""


class BadVertices(ShapeError):
    """A value is no ascending tuple of unlike vertices."""


class BadDegree(ShapeError):
    """A value is no degree within the limits of the function."""


class BadJoin(ShapeError):
    """Two complexes have a common vertex, or too many vertices for one simplex."""


class BadNames(ShapeError):
    """A value does not give each vertex a new name of its own."""

    def __init__(self, index):
        self.index = index


class NotText(ShapeError):
    """A value that should be a string is none."""


class InvalidText(ShapeError):
    """A character of a text cannot stand where it stands."""

    def __init__(self, place):
        self.place = place


# Holes.

class BadChain(ShapeError):
    """A value is no chain, or none of the complex."""

    def __init__(self, index):
        self.index = index


class NotCycle(ShapeError):
    """The boundary of a chain is not nothing."""


class BadMatrix(ShapeError):
    """A value is no matrix of integers."""


class BadPrime(ShapeError):
    """A value is none of the primes 2, 3, 5 and 7."""


class NotFiltration(ShapeError):
    """A value that should be a filtration is none."""


class BadTimes(ShapeError):
    """A value does not give each simplex a time, faces first."""

    def __init__(self, index):
        self.index = index


class BadTime(ShapeError):
    """A value is no time, or one before another one that it should follow."""


class BadOrder(ShapeError):
    """A value is no order of the simplices of a filtration."""

    def __init__(self, index):
        self.index = index


class BadBars(ShapeError):
    """A value is no tuple of at most 12 bars."""

    def __init__(self, index):
        self.index = index


# Shapes.

class BadPairs(ShapeError):
    """A value is no tuple of free pairs to be taken away in turn."""

    def __init__(self, index):
        self.index = index


class NotPure(ShapeError):
    """The facets of a complex have unlike lengths."""


class NotShelling(ShapeError):
    """A value is no shelling of the complex."""


class BadCounts(ShapeError):
    """A value is no tuple of at most 8 counts."""

    def __init__(self, index):
        self.index = index


class BadNumber(ShapeError):
    """A value is no number within the limits of the function."""


class BadMany(ShapeError):
    """A value is no number of points on which the complex lies."""


class FullComplex(ShapeError):
    """All points together are a simplex."""


class BadPart(ShapeError):
    """A value is no part of the complex."""


class BadTable(ShapeError):
    """A value is no table of 0 and 1."""


class BadCover(ShapeError):
    """A value is no tuple of at most 8 complexes."""

    def __init__(self, index):
        self.index = index


class NotPoset(ShapeError):
    """A value that should be a partial order is none."""


class BadRelation(ShapeError):
    """A value is no tuple of pairs that make a partial order."""

    def __init__(self, index):
        self.index = index


class BadPoint(ShapeError):
    """A value is no point of the partial order."""


class BadInterval(ShapeError):
    """A point is not less than the other one."""


class BadImages(ShapeError):
    """A value is no monotone map of partial orders."""


# Maps and paths.

class BadMap(ShapeError):
    """A value is no map from one complex to the other."""


class NotOriented(ShapeError):
    """A complex has no fundamental chain, or one of another degree."""


class NotConnected(ShapeError):
    """A complex does not have just one component."""


class BadTree(ShapeError):
    """A value is no tree of the complex."""


class BadPath(ShapeError):
    """A value is no path of the complex."""

    def __init__(self, index):
        self.index = index


class BadSheets(ShapeError):
    """A value is no number of sheets."""


class BadWay(ShapeError):
    """A value is no way into the sheets."""


class NotSurface(ShapeError):
    """A complex is no closed surface."""


class BadLetters(ShapeError):
    """A value is no word of a polygon."""

    def __init__(self, index):
        self.index = index


class BadMatching(ShapeError):
    """A value is no matching of simplices without a ring."""


# Rows, flips and workshops.

class BadRow(ShapeError):
    """A value is no row of complexes."""

    def __init__(self, index):
        self.index = index


class NotFlip(ShapeError):
    """A value is no edge that can be flipped."""


class InvalidLine(ShapeError):
    """A word of a line cannot stand where it stands, or is lacking."""

    def __init__(self, word):
        self.word = word


class NothingToUndo(ShapeError):
    """No step is left that could be taken back."""


class NothingToRedo(ShapeError):
    """No step has been taken back that could be done again."""
