"""Conjugators, centralizers and roots in the full symmetric group."""

from math import factorial

from stronggens.arithmetic import greatest_power
from stronggens.checks import check_any_permutation, check_two_permutations
from stronggens.errors import BadExponent
from stronggens.quick import from_cycles, full_cycles

PRIMES = (2, 3, 5, 7, 11)


def conjugator(p, q):
    """Return a permutation by which q is the conjugate of p, None if there is none."""
    check_two_permutations(p, q)
    some = sorted(full_cycles(p), key=len)
    others = sorted(full_cycles(q), key=len)
    if [len(row) for row in some] != [len(row) for row in others]:
        return None
    images = [0] * len(p)
    for row, other in zip(some, others):
        for point, target in zip(row, other):
            images[point] = target
    return tuple(images)


def centralizer_size(p):
    """Return how many permutations of the degree commute with p."""
    check_any_permutation(p)
    size = 1
    for length, rows in _by_length(p):
        for _ in rows:
            size = size * length
        size = size * factorial(len(rows))
    return size


def root(p, exponent):
    """Return a permutation whose power with the exponent is p, None if there is none."""
    if root_obstacle(p, exponent) is not None:
        return None
    merged = []
    for length, rows in _by_length(p):
        divisor = _divisor(length, exponent)
        for start in range(0, len(rows), divisor):
            merged.append(_merged_cycle(rows[start:start + divisor], exponent))
    return from_cycles(len(p), merged)


def root_obstacle(p, exponent):
    """Return (length, number of cycles, divisor) for the smallest length that allows no root, None if all do."""
    check_any_permutation(p)
    if type(exponent) is not int or exponent < 1:
        raise BadExponent("not a positive integer")
    for length, rows in _by_length(p):
        divisor = _divisor(length, exponent)
        if len(rows) % divisor != 0:
            return length, len(rows), divisor
    return None


def _by_length(p):
    """Return the ascending list of the pairs (length, all cycles of that length)."""
    rows = full_cycles(p)
    lengths = sorted(set([len(row) for row in rows]))
    return [(length, [row for row in rows if len(row) == length]) for length in lengths]


def _divisor(length, exponent):
    """Return the product, over the primes of the length, of their greatest powers that divide the exponent."""
    divisor = 1
    for prime in PRIMES:
        if length % prime == 0:
            divisor = divisor * greatest_power(prime, exponent)
    return divisor


def _merged_cycle(rows, exponent):
    """Return one cycle whose power with the exponent has just these cycles, all of one length."""
    size = len(rows) * len(rows[0])
    places = [0] * size
    for start, row in enumerate(rows):
        for step, point in enumerate(row):
            places[(start + step * exponent) % size] = point
    return tuple(places)
