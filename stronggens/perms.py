"""Permutations: products, inverses, powers and cycles."""

from stronggens.checks import check_any_permutation, check_degree, check_two_permutations
from stronggens.errors import BadExponent
from stronggens.quick import all_lengths, compose, conjugated, full_cycles, invert, period, unit


def identity(degree):
    """Return the permutation that fixes every point of a degree."""
    check_degree(degree)
    return unit(degree)


def product(p, q):
    """Return the permutation that applies p first and then q."""
    check_two_permutations(p, q)
    return compose(p, q)


def inverse(p):
    """Return the permutation whose product with p is the identity."""
    check_any_permutation(p)
    return invert(p)


def power(p, exponent):
    """Return the product of so many factors p, of so many inverses if the exponent is negative."""
    check_any_permutation(p)
    if type(exponent) is not int:
        raise BadExponent("not an integer")
    images = list(p)
    for row in full_cycles(p):
        for place, point in enumerate(row):
            # A cycle's length is enough of the exponent, however long that is.
            images[point] = row[(place + exponent) % len(row)]
    return tuple(images)


def conjugate(p, g):
    """Return the product of the inverse of g, p and g."""
    check_two_permutations(p, g)
    return conjugated(p, g)


def commutator(p, q):
    """Return the product of the inverse of p, the inverse of q, p and q."""
    check_two_permutations(p, q)
    return compose(invert(p), conjugated(p, q))


def cycles(p):
    """Return the tuple of the cycles of two points and more."""
    check_any_permutation(p)
    return tuple([row for row in full_cycles(p) if len(row) > 1])


def cycle_lengths(p):
    """Return the ascending tuple of the lengths of all cycles, 1 for each fixed point."""
    check_any_permutation(p)
    return all_lengths(p)


def element_order(p):
    """Return the smallest positive exponent whose power of p is the identity."""
    check_any_permutation(p)
    return period(p)


def sign(p):
    """Return 1 if the degree less the number of all cycles is even, -1 otherwise."""
    check_any_permutation(p)
    return 1 if (len(p) - len(full_cycles(p))) % 2 == 0 else -1


def support(p):
    """Return the ascending tuple of the points that p moves."""
    check_any_permutation(p)
    return tuple([point for point, target in enumerate(p) if point != target])
