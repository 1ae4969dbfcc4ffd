"""What counts as a degree, a permutation, a group and so on, and the errors for what does not."""

from stronggens.arithmetic import is_prime
from stronggens.errors import (
    BadDegree, BadGroup, BadNumber, BadPermutation, BadPoint, BadPrefix, BadPresentation, BadPrime, BadProgram, BadWord,
    BadWords,
)

MOST_DEGREE = 12
MOST_GENERATORS = 12
MOST_LETTERS = 60
MOST_STEPS = 2000
MOST_RELATORS = 60
MOST_WORDS = 6
MOST_LETTERS_OF_WORDS = 36
MOST_CONJUGATED = 6


def is_between(value, low, high):
    """Tell whether a value is an integer from low to high; True and False are none."""
    return type(value) is int and low <= value <= high


def is_row(value, most):
    """Tell whether a value is a tuple of at most so many things."""
    return type(value) is tuple and len(value) <= most


def is_tuple_of(value, size):
    """Tell whether a value is a tuple of exactly so many things."""
    return type(value) is tuple and len(value) == size


def is_degree(value):
    """Tell whether a value is a degree."""
    return is_between(value, 1, MOST_DEGREE)


def is_point(degree, value):
    """Tell whether a value is a point of the degree."""
    return is_between(value, 0, degree - 1)


def are_points(degree, value):
    """Tell whether a value is a tuple of points, equal ones allowed."""
    return type(value) is tuple and all(is_point(degree, x) for x in value)


def are_distinct_points(degree, value):
    """Tell whether a value is a tuple of different points."""
    return are_points(degree, value) and len(set(value)) == len(value)


def are_ascending_points(degree, value):
    """Tell whether a value is an ascending tuple of different points."""
    return are_distinct_points(degree, value) and list(value) == sorted(value)


def is_permutation(degree, value):
    """Tell whether a value is a permutation of the degree."""
    return is_tuple_of(value, degree) and are_distinct_points(degree, value)


def is_any_permutation(value):
    """Tell whether a value is a permutation of any degree."""
    return type(value) is tuple and is_degree(len(value)) and is_permutation(len(value), value)


def check_degree(value):
    """Raise BadDegree for a value that is not a degree."""
    if not is_degree(value):
        raise BadDegree("not an integer from 1 to 12")


def check_any_permutation(value):
    """Raise BadPermutation for a value that is not a permutation of any degree."""
    if not is_any_permutation(value):
        raise BadPermutation("not a permutation of 1 to 12 points")


def check_permutation(degree, value):
    """Raise BadPermutation for a value that is not a permutation of the degree."""
    if not is_permutation(degree, value):
        raise BadPermutation(f"not a permutation of {degree} points")


def check_two_permutations(p, q):
    """Raise BadPermutation unless both are permutations, of one degree."""
    check_any_permutation(p)
    check_permutation(len(p), q)


def check_point(degree, value):
    """Raise BadPoint for a value that is not a point of the degree."""
    if not is_point(degree, value):
        raise BadPoint(f"not a point from 0 to {degree - 1}")


def check_number(value, low, high):
    """Raise BadNumber for a value that is not an integer from low to high."""
    if not is_between(value, low, high):
        raise BadNumber(f"not an integer from {low} to {high}")


def check_prime(value):
    """Raise BadPrime for a value that is not a prime."""
    if not is_prime(value):
        raise BadPrime("not a prime number from 2 to 1999")


def check_group(value):
    """Raise BadGroup for a value that is not a group."""
    if not is_tuple_of(value, 2) or not is_degree(value[0]) or not is_row(value[1], MOST_GENERATORS):
        raise BadGroup(None)
    for index, p in enumerate(value[1]):
        if not is_permutation(value[0], p):
            raise BadGroup(index)


def check_two_groups(one, other):
    """Raise BadGroup or BadDegree unless both are groups, of one degree."""
    check_group(one)
    check_group(other)
    if one[0] != other[0]:
        raise BadDegree("the degrees of the groups differ")


def check_prefix(degree, value):
    """Raise BadPrefix for a value that is not a tuple of different points of the degree."""
    if type(value) is not tuple:
        raise BadPrefix(None)
    for index, point in enumerate(value):
        if not is_point(degree, point) or point in value[:index]:
            raise BadPrefix(index)


def is_letter(many, value):
    """Tell whether a value is a letter for one of so many generators."""
    return is_between(value, -many, many) and value != 0


def check_word(many, value):
    """Raise BadWord for a value that is not a word in so many generators."""
    if not is_row(value, MOST_LETTERS):
        raise BadWord(None)
    for index, letter in enumerate(value):
        if not is_letter(many, letter):
            raise BadWord(index)


def is_word(many, value):
    """Tell whether a value is a word in so many generators."""
    return is_row(value, MOST_LETTERS) and all(is_letter(many, letter) for letter in value)


def first_no_word(many, values):
    """Return the index of the first value that is not a word in so many generators, None if all are."""
    for index, value in enumerate(values):
        if not is_word(many, value):
            return index
    return None


def is_presentation(value):
    """Tell whether a value is a presentation."""
    return _is_presented(value) and first_no_word(value[0], value[1]) is None


def check_presentation(value):
    """Raise BadPresentation for a value that is not a presentation."""
    if not _is_presented(value):
        raise BadPresentation(None)
    index = first_no_word(value[0], value[1])
    if index is not None:
        raise BadPresentation(index)


def check_words(many, value):
    """Raise BadWords for a value that is not a tuple of words of a subgroup, in so many generators."""
    if not is_row(value, MOST_WORDS):
        raise BadWords(None)
    index = first_no_word(many, value)
    if index is not None:
        raise BadWords(index)
    if sum([len(word) for word in value]) > MOST_LETTERS_OF_WORDS:
        raise BadWords(None)


def is_step(many, place, value):
    """Tell whether a value can stand at a place of a program over so many generators."""
    if is_tuple_of(value, 2) and value[0] == "gen":
        return is_between(value[1], 0, many - 1)
    if is_tuple_of(value, 2) and value[0] == "inv":
        return is_between(value[1], 0, place - 1)
    if is_tuple_of(value, 3) and value[0] == "mul":
        return is_between(value[1], 0, place - 1) and is_between(value[2], 0, place - 1)
    return False


def is_program(many, value):
    """Tell whether a value is a program over so many generators."""
    return is_row(value, MOST_STEPS) and all(is_step(many, place, step) for place, step in enumerate(value))


def check_program(many, value):
    """Raise BadProgram for a value that is not a program over so many generators."""
    if not is_row(value, MOST_STEPS):
        raise BadProgram(None)
    for place, step in enumerate(value):
        if not is_step(many, place, step):
            raise BadProgram(place)


def _is_presented(value):
    """Tell whether a value is a pair of a number of generators and a tuple of at most 60 things."""
    return is_tuple_of(value, 2) and is_between(value[0], 0, MOST_GENERATORS) and is_row(value[1], MOST_RELATORS)
