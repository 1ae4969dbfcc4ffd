"""Hall subgroups, and the series that tell solvable and nilpotent groups."""

from itertools import combinations

from stronggens.arithmetic import greatest_power, is_prime, prime_divisors
from stronggens.checks import check_group, check_prime
from stronggens.errors import BadPrimes
from stronggens.members import check_most
from stronggens.primeparts import conjugate_lists, sylow_span
from stronggens.quick import unit
from stronggens.spans import Span, commutators, normal_span
from stronggens.towers import listed

MOST_LISTED = 2000
MOST_HALL = 200


def hall(group, primes):
    """Return a subgroup of as many elements as the product of the parts for some primes, None if there is none."""
    check_group(group)
    if not _are_primes(primes):
        raise BadPrimes("not an ascending tuple of distinct primes")
    found = _hall_span(group, listed(group, MOST_HALL), primes)
    return None if found is None else found.group()


def hall_gap(group):
    """Return the first tuple of primes that divide the order for which hall is None, None if there is none."""
    rows = listed(group, MOST_HALL)
    divisors = prime_divisors(len(rows))
    for size in range(len(divisors) + 1):
        for primes in combinations(divisors, size):
            if _hall_span(group, rows, primes) is None:
                return primes
    return None


def derived_series(group):
    """Return the list of the group and, behind each member, what the commutators of its elements make."""
    return _descending(group, False)


def is_solvable(group):
    """Tell whether the derived series ends with the identity alone."""
    return len(derived_series(group)[-1]) == 1


def core_p(group, prime):
    """Return the element list of the largest normal subgroup whose order is a power of a prime."""
    check_group(group)
    check_prime(prime)
    degree, generators = group
    rows = listed(group, MOST_LISTED)
    # It is what all Sylow subgroups have in common.
    spans = [{p: True for p in told} for told in _sylow_lists(degree, generators, rows, prime)]
    return tuple([p for p in rows if all([p in span for span in spans])])


def lower_central(group):
    """Return the list of the group and, behind each member, what its commutators with all elements make."""
    return _descending(group, True)


def upper_central(group):
    """Return the list of the identity alone and, behind each member, what commutes with all elements but for it."""
    rows = listed(group, MOST_LISTED)
    members = [(unit(group[0]),)]
    wider = _central_above(group, rows, members[-1])
    while len(wider) > len(members[-1]):
        members.append(wider)
        wider = _central_above(group, rows, members[-1])
    return members


def is_nilpotent(group):
    """Tell whether the lower central series ends with the identity alone."""
    return len(lower_central(group)[-1]) == 1


def _are_primes(value):
    if type(value) is not tuple or not all([is_prime(prime) for prime in value]):
        return False
    return list(value) == sorted(set(value))


def _sylow_lists(degree, generators, rows, prime):
    return conjugate_lists(generators, sylow_span(degree, rows, prime).listed())


def _hall_span(group, rows, primes):
    """Return a subgroup of as many elements as the product of the parts for some primes, None if there is none."""
    degree, generators = group
    goal = 1
    spans = [Span(degree)]
    for prime in primes:
        goal = goal * greatest_power(prime, len(rows))
    for prime in primes:
        # Such a subgroup is made by a Sylow subgroup for each prime; which one is first makes no difference.
        lists = _sylow_lists(degree, generators, rows, prime)
        lists = lists[:1] if len(spans[0].rows) == 1 else lists
        joins = [Span(degree, [*span.generators, *told]) for span in spans for told in lists]
        distinct = {span.listed(): span for span in joins if goal % len(span.rows) == 0}
        spans = list(distinct.values())
        if not spans:
            return None
    return spans[0]


def _descending(group, with_all):
    """Return the members of a series; the commutators of each one, with all elements or its own, make the next one."""
    check_group(group)
    check_most(group, MOST_LISTED)
    first = Span(group[0], group[1])
    members = [first]
    below = _commuted(first, first)
    while len(below.rows) < len(members[-1].rows):
        members.append(below)
        below = _commuted(below, first if with_all else below)
    return [span.listed() for span in members]


def _commuted(span, others):
    """Return what the commutators of a normal subgroup's elements and of those of a group around it make."""
    made = commutators(span.generators, others.generators)
    return normal_span(len(span.rows[0]), others.generators, made)


def _central_above(group, rows, below):
    known = {p: True for p in below}
    return tuple([p for p in rows if all([q in known for q in commutators([p], group[1])])])
