"""Direct products and their subgroups, by sections of the factors (E. Goursat, 1889)."""

from stronggens.checks import MOST_DEGREE, MOST_GENERATORS
from stronggens.errors import TooMany
from stronggens.frames import Frame, all_parts, is_normal
from stronggens.mappings import factor_group, isomorphisms
from stronggens.members import check_groups, check_most, check_subgroup, order_of
from stronggens.quick import unit
from stronggens.subgroups import subgroups
from stronggens.towers import listed

MOST_ELEMENTS = 60


def direct_product(one, other):
    """Return the group on the points of one, and behind them those of other, with the generators of both."""
    check_groups(one, other)
    return _product(one, other)


def sections(group):
    """Return the list of the pairs of a subgroup and a normal subgroup of it, as element lists."""
    return [(frame.written(upper), frame.written(lower)) for frame, upper, lower in _sections(group)]


def goursat(one, other, part):
    """Return what stands in the pairs of a subgroup, and what stands there with the identity, for one and other."""
    check_groups(one, other, part)
    whole = _product(one, other)
    check_subgroup(whole, part)
    check_most(whole, MOST_ELEMENTS)
    degree = one[0]
    pairs = [(p[:degree], tuple([x - degree for x in p[degree:]])) for p in listed(part, MOST_ELEMENTS)]
    return (
        _ascending([p for p, _ in pairs]), _ascending([p for p, q in pairs if q == unit(other[0])]),
        _ascending([q for _, q in pairs]), _ascending([q for p, q in pairs if p == unit(degree)]),
    )


def matched_subgroups(one, other):
    """Return the list of the element lists of all subgroups of the direct product."""
    check_groups(one, other)
    return subgroups(_product(one, other))


def matched_count(one, other):
    """Return the number of isomorphisms of factor groups of sections of one with those of sections of other."""
    check_groups(one, other)
    check_most(_product(one, other), MOST_ELEMENTS)
    most = min(order_of(one), order_of(other))
    some, others = _kinds(one, most), _kinds(other, most)
    number = 0
    for factor, many in some:
        for fitting, times in others:
            number += many * times * len(isomorphisms(factor, fitting, MOST_ELEMENTS))
    return number


def _product(one, other):
    degree = one[0] + other[0]
    if degree > MOST_DEGREE or len(one[1]) + len(other[1]) > MOST_GENERATORS:
        raise TooMany(MOST_DEGREE)
    behind = tuple([one[0] + x for x in range(other[0])])
    some = [p + behind for p in one[1]]
    others = [unit(one[0]) + tuple([one[0] + x for x in p]) for p in other[1]]
    return degree, tuple(some + others)


def _ascending(rows):
    return tuple(sorted(set(rows)))


def _sections(group):
    """Return the list of (frame, upper, lower) for all sections; the frame is the group's."""
    frame = Frame(listed(group, MOST_ELEMENTS))
    parts = all_parts(frame)
    found = []
    for upper in parts:
        for lower in parts:
            if lower.lies_in(upper) and is_normal(frame, lower, upper.generators):
                found.append((frame, upper, lower))
    return found


def _kinds(group, most):
    """Return the factor groups, of at most so many elements, of sections, each kind with the number of sections."""
    kinds = []
    for frame, upper, lower in _sections(group):
        if len(upper.numbers) <= most * len(lower.numbers):
            generators = [frame.rows[number] for number in upper.generators]
            factor = factor_group(generators, frame.written(upper), frame.written(lower))
            same = [kind for kind in kinds if isomorphisms(factor, kind[0], 1)]
            if same:
                same[0][1] += 1
            else:
                kinds.append([factor, 1])
    return kinds
