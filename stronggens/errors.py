"""The errors of the package; the fields of an error are attributes of the same names."""


class GroupError(ValueError):
    """The base class of all errors of the package."""


class BadDegree(GroupError):
    """A value that is not an integer from 1 to 12, or a second group of another degree."""


class BadPermutation(GroupError):
    """A value that is not a permutation, or one of another degree."""


class BadExponent(GroupError):
    """A value that is not an exponent as the function takes it."""


class BadGroup(GroupError):
    """A value that is not a group."""

    def __init__(self, index):
        self.index = index


class BadPoint(GroupError):
    """A value that is not a point of the degree."""


class BadWord(GroupError):
    """A value that is not a word."""

    def __init__(self, index):
        self.index = index


class BadProgram(GroupError):
    """A value that is not a program."""

    def __init__(self, index):
        self.index = index


class NotText(GroupError):
    """A value that is not a string."""


class InvalidText(GroupError):
    """A text with a character that is not allowed, or that ends too early."""

    def __init__(self, place):
        self.place = place


class TooMany(GroupError):
    """More things than the function allows."""

    def __init__(self, most):
        self.most = most


class NotMember(GroupError):
    """A permutation that is not an element of the group."""


class NotSubgroup(GroupError):
    """A group that is not a subgroup."""


class NotNormal(GroupError):
    """A subgroup that is not normal."""


class NotTransitive(GroupError):
    """A group with more than one orbit."""


class BadNumber(GroupError):
    """A value that is not an integer in the range that the function takes."""


class BadPrime(GroupError):
    """A value that is not a prime number from 2 to 1999."""


class BadPartition(GroupError):
    """A value that is not a partition of the points."""


class BadSet(GroupError):
    """A value that is not an ascending tuple of points."""


class BadPoints(GroupError):
    """A value that is not a tuple of distinct points of the length needed."""


class BadCounts(GroupError):
    """A value that does not tell how often each color is used."""


class BadColoring(GroupError):
    """A value that is not a coloring of the points."""


class NotInvariant(GroupError):
    """A partition that the group does not keep."""


class NotRegular(GroupError):
    """A value that is not the element list of a regular subgroup."""


class BadPrefix(GroupError):
    """A value that is not a tuple of different points."""

    def __init__(self, index):
        self.index = index


class BadTransversal(GroupError):
    """A value that is not a transversal of the group at the point."""


class NotChain(GroupError):
    """A value that is not a chain of the group."""


class BadPresentation(GroupError):
    """A value that is not a presentation."""

    def __init__(self, index):
        self.index = index


class BadWords(GroupError):
    """A value that is not a tuple of words of a subgroup."""

    def __init__(self, index):
        self.index = index


class BadMethod(GroupError):
    """A value that is not the name of a method."""


class BadTable(GroupError):
    """A value that is not a table."""


class BadPrimes(GroupError):
    """A value that is not an ascending tuple of distinct primes."""


class NotPrimePower(GroupError):
    """A subgroup whose number of elements is not a power of the prime."""


class NotSylow(GroupError):
    """A subgroup that is not a Sylow subgroup."""


class NotAbelian(GroupError):
    """A group in which some generators do not commute."""


class BadImages(GroupError):
    """A value that does not tell an image for each generator."""

    def __init__(self, index):
        self.index = index


class NotExtending(GroupError):
    """Images that do not extend to a homomorphism."""


class NotComplement(GroupError):
    """A subgroup that is not a complement."""


class BadMap(GroupError):
    """A value that is not a crossed map."""


class BadGset(GroupError):
    """A value that is not a G-set of the group."""


class BadRow(GroupError):
    """A value that is not a row of integers, one for each class."""

    def __init__(self, index):
        self.index = index


class BadTuple(GroupError):
    """A value that is not a tuple of points or permutations of the length needed."""


class BadGraph(GroupError):
    """A value that is not a graph."""


class BadMatrix(GroupError):
    """A value that is not a matrix."""

    def __init__(self, index):
        self.index = index


class BadTarget(GroupError):
    """A value that is not a target for the matrix."""


class InvalidCommand(GroupError):
    """A line of a session's text that cannot be run."""

    def __init__(self, line, column):
        self.line = line
        self.column = column


class BadName(GroupError):
    """A value that is not a name of a session."""


class BadLoad(GroupError):
    """A value that is not a dict of groups."""
