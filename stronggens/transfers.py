"""Normal complements of Sylow subgroups, what stands against them, and transfers."""

from stronggens.arithmetic import is_power
from stronggens.checks import check_group, check_permutation, check_prime, is_tuple_of
from stronggens.errors import NotAbelian
from stronggens.frames import Frame, all_parts
from stronggens.members import check_groups, check_member, check_subgroup
from stronggens.primeparts import normalizes, sylow_span
from stronggens.quick import compose, conjugated, invert, period, unit
from stronggens.spans import Span, is_element, is_element_list
from stronggens.towers import listed

MOST_LISTED = 2000
MOST_OBSTACLE = 120


def normal_complement(group, prime):
    """Return the element list of the normal subgroup that completes each Sylow subgroup, None if there is none."""
    rows = _rows(group, prime, MOST_LISTED)
    # It can have but the elements whose order the prime does not divide, and it has all of them.
    span = Span(group[0])
    for p in rows:
        if period(p) % prime != 0:
            span.take(p)
    return span.listed() if len(span.rows) % prime != 0 else None


def is_central(group, prime):
    """Tell whether a Sylow subgroup lies in the center of its normalizer."""
    rows = _rows(group, prime, MOST_LISTED)
    span = sylow_span(group[0], rows, prime)
    return not any([normalizes(span, g) and _moves(span.generators, g) for g in rows])


def obstacle(group, prime):
    """Return a subgroup of prime power order and an element of another order that moves it in itself, or None."""
    rows = _rows(group, prime, MOST_OBSTACLE)
    others = [p for p in rows if period(p) % prime != 0]
    frame = Frame(sylow_span(group[0], rows, prime).listed())
    for part in all_parts(frame):
        span = Span(group[0], [frame.rows[number] for number in part.generators])
        for g in others:
            if normalizes(span, g) and _moves(span.generators, g):
                return span.listed(), g
    return None


def shows_obstacle(group, prime, value):
    """Tell whether any value is a pair of a subgroup and an element as they stand against a normal complement."""
    rows = _rows(group, prime, MOST_LISTED)
    whole = Span(group[0], rows)
    if not is_tuple_of(value, 2) or not is_element_list(whole, value[0]) or not is_element(whole, value[1]):
        return False
    part, g = value
    if not is_power(len(part), prime) or period(g) % prime == 0:
        return False
    return normalizes(Span(group[0], part), g) and _moves(part, g)


def transfer(group, part, p):
    """Return the transfer of an element into an abelian subgroup."""
    check_groups(group, part)
    check_permutation(group[0], p)
    check_subgroup(group, part)
    if not all([compose(g, h) == compose(h, g) for g in part[1] for h in part[1]]):
        raise NotAbelian("some generators of the subgroup do not commute")
    check_member(group, p)
    rows = listed(group, MOST_LISTED)
    below = listed(part, MOST_LISTED)
    leaders = {}
    for t in rows:
        if t not in leaders:
            for h in below:
                leaders[compose(h, t)] = t
    made = unit(group[0])
    for t in rows:
        if leaders[t] == t:
            moved = compose(t, p)
            made = compose(made, compose(moved, invert(leaders[moved])))
    return made


def _rows(group, prime, most):
    """Return the elements of the group, if it is one and the prime is one; TooMany if there are more than so many."""
    check_group(group)
    check_prime(prime)
    return listed(group, most)


def _moves(perms, g):
    """Tell whether the conjugate of some permutation by another one is not itself."""
    return any(conjugated(p, g) != p for p in perms)
