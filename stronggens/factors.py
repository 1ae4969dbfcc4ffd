"""Abelian groups: their factors, bases and isomorphisms, and abelian quotients."""

from math import gcd

from stronggens.arithmetic import prime_divisors, raised
from stronggens.checks import check_group, check_number, check_presentation
from stronggens.errors import NotAbelian
from stronggens.mappings import Mapping, factor_group
from stronggens.perms import power
from stronggens.quick import compose, period
from stronggens.smith import Reduction
from stronggens.spans import Span, commutators, normal_span
from stronggens.towers import listed

MOST_ELEMENTS = 2000
GREATEST_ORDER = 1000000000


def factors_of(group):
    """Return the factors of an abelian group."""
    _check_abelian(group)
    return _factors(Span(group[0], group[1]).rows)


def basis_of(group):
    """Return elements whose orders are the factors and whose powers make each element in just one way."""
    _check_abelian(group)
    return _basis(group)


def abelian_map(group, other):
    """Return images of the generators of an abelian group by an isomorphism to another, None if there is none."""
    if factors_of(group) != factors_of(other):
        return None
    table = Mapping(group[0], other[0], _basis(group), _basis(other)).table
    return tuple([table[p] for p in group[1]])


def quotient_factors(group):
    """Return the factors of the quotient of a group by the subgroup that all commutators generate."""
    rows = listed(group, MOST_ELEMENTS)
    below = normal_span(group[0], group[1], commutators(group[1], group[1]))
    size, moves = factor_group(group[1], rows, below.rows)
    return _factors(Span(size, moves).rows)


def presentation_factors(presentation):
    """Return the factors of the abelian quotient of a presented group, and how many infinite cyclic groups it has."""
    check_presentation(presentation)
    many, relators = presentation
    rows = [_sums(many, word) for word in relators]
    found = [entry for entry in Reduction([*rows, [0] * many]).diagonal_entries() if entry != 0]
    return tuple([entry for entry in found if entry > 1]), many - len(found)


def cyclic_images(presentation, many):
    """Return the number of homomorphisms from a presented group to a cyclic group of some order."""
    factors, rank = presentation_factors(presentation)
    check_number(many, 1, GREATEST_ORDER)
    number = raised(many, rank)
    for factor in factors:
        number = number * gcd(factor, many)
    return number


def _check_abelian(group):
    check_group(group)
    if any([compose(p, q) != compose(q, p) for p in group[1] for q in group[1]]):
        raise NotAbelian("two generators do not commute")


def _factors(rows):
    """Return the factors of an abelian group with these elements."""
    periods = [period(p) for p in rows]
    factors = []
    for prime in prime_divisors(len(rows)):
        exponent = prime
        before = 1
        many = _count(periods, exponent)
        while many > before:
            # As often as the prime divides the quotient of these numbers, a factor is divisible by this power of it.
            for at in range(_depth(prime, many // before)):
                if at == len(factors):
                    factors.append(1)
                factors[at] = factors[at] * prime
            before = many
            exponent = exponent * prime
            many = _count(periods, exponent)
    return tuple(reversed(factors))


def _count(periods, exponent):
    """Return how many of some orders divide an exponent."""
    return len([many for many in periods if exponent % many == 0])


def _depth(prime, number):
    """Return the exponent of a power of a prime."""
    depth = 0
    while number > 1:
        number = number // prime
        depth += 1
    return depth


def _basis(group):
    """Return a basis of an abelian group, in the order of the factors."""
    rows = Span(group[0], group[1]).listed()
    part = Span(group[0])
    found = []
    # What the elements of the greatest orders make always has a complement, so the next one is found in it.
    for factor in reversed(_factors(rows)):
        fitting = [p for p in rows if period(p) == factor and _is_apart(part, p, factor)]
        found.append(fitting[0])
        part.take(fitting[0])
    return tuple(reversed(found))


def _is_apart(part, p, factor):
    """Tell whether no power of an element of this order, but the identity, lies in a subgroup."""
    return not any([part.holds(power(p, factor // prime)) for prime in prime_divisors(factor)])


def _sums(many, word):
    """Return, for each generator, how often it stands in a word, its inverses counted against it."""
    sums = [0] * many
    for letter in word:
        sums[abs(letter) - 1] += 1 if letter > 0 else -1
    return sums
