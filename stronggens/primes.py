"""Primes: Sylow subgroups, roots of the identity, and elements whose order is a prime."""

from stronggens.arithmetic import greatest_power, is_power, raised
from stronggens.checks import check_group, check_permutation, check_prime
from stronggens.errors import BadExponent, NotPrimePower, NotSylow
from stronggens.members import check_groups, check_member, check_most, check_normal, check_subgroup, order_of
from stronggens.primeparts import conjugate_lists, normalizes, sylow_span
from stronggens.quick import compose, conjugated, invert, period
from stronggens.sifting import membership
from stronggens.spans import Span
from stronggens.towers import listed

MOST_LISTED = 2000


def prime_part(group, prime):
    """Return the greatest power of a prime that divides the number of elements."""
    return greatest_power(prime, len(_rows(group, prime)))


def sylow(group, prime):
    """Return a Sylow subgroup for a prime."""
    rows = _rows(group, prime)
    return sylow_span(group[0], rows, prime).group()


def sylows(group, prime):
    """Return the ascending list of the element lists of all Sylow subgroups for a prime."""
    rows = _rows(group, prime)
    degree, generators = group
    return conjugate_lists(generators, sylow_span(degree, rows, prime).listed())


def sylow_count(group, prime):
    """Return the number of the Sylow subgroups for a prime."""
    return len(sylows(group, prime))


def conjugate_into(group, prime, part, whole):
    """Return an element that conjugates a subgroup, of prime power order, into a Sylow subgroup for the prime."""
    check_group(group)
    check_prime(prime)
    check_groups(part, whole)
    check_subgroup(group, part)
    if not is_power(order_of(part), prime):
        raise NotPrimePower("not as many elements as a power of the prime")
    check_subgroup(group, whole)
    _check_sylow(group, prime, whole)
    span = Span(whole[0], whole[1])
    return [g for g in listed(group, MOST_LISTED) if all([span.holds(conjugated(p, g)) for p in part[1]])][0]


def frattini_split(group, normal, prime, part, p):
    """Return a pair (n, h) of an element of a normal subgroup and one that keeps its Sylow subgroup, with product p."""
    check_groups(group, normal)
    check_prime(prime)
    check_group(part)
    check_permutation(group[0], p)
    check_subgroup(group, normal)
    check_normal(group, normal)
    check_subgroup(normal, part)
    _check_sylow(normal, prime, part)
    check_member(group, p)
    check_most(group, MOST_LISTED)
    span = Span(part[0], part[1])
    # There is a pair, by the argument of G. Frattini, 1885.
    pairs = [(n, compose(invert(n), p)) for n in listed(normal, MOST_LISTED)]
    return [pair for pair in pairs if normalizes(span, pair[1])][0]


def roots_of_one(group, exponent):
    """Return the number of elements whose power with the exponent is the identity."""
    check_group(group)
    if type(exponent) is not int or exponent < 1:
        raise BadExponent("not an integer of at least 1")
    return len([p for p in listed(group, MOST_LISTED) if exponent % period(p) == 0])


def rings(group, prime):
    """Return how many tuples of so many elements with the product 1 have equal ones, and the number of rings of others.

    Each ring of others is so many tuples, since their number is a prime (J. McKay, 1959).
    """
    rows = _rows(group, prime)
    constant = len([p for p in rows if prime % period(p) == 0])
    return constant, (raised(len(rows), prime - 1) - constant) // prime


def element_of_prime(group, prime):
    """Return a program whose value has the prime as its order, None if there is none."""
    fitting = [p for p in _rows(group, prime) if period(p) == prime]
    return membership(group, fitting[0]) if fitting else None


def _rows(group, prime):
    """Return the elements of the group, if it is one and the prime is one."""
    check_group(group)
    check_prime(prime)
    return listed(group, MOST_LISTED)


def _check_sylow(group, prime, part):
    """Raise NotSylow for a subgroup that is not a Sylow subgroup."""
    if order_of(part) != greatest_power(prime, order_of(group)):
        raise NotSylow("not a Sylow subgroup for the prime")
