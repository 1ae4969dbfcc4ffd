"""Products of subgroups, and composition series."""

from stronggens.checks import check_permutation
from stronggens.members import check_groups, check_most, check_normal, check_subgroup
from stronggens.quick import compose, invert, unit
from stronggens.spans import Span, is_element_list
from stronggens.towers import listed, tower_of

MOST_LISTED = 2000
MOST_SERIES = 200


def product_set(group, one, other):
    """Return the ascending tuple of the products of an element of one and an element of other."""
    check_groups(group, one, other)
    return _products(group, one, other)


def is_product_group(group, one, other):
    """Tell whether the products of an element of one and an element of other are the elements of a subgroup."""
    rows = product_set(group, one, other)
    both = tower_of((group[0], one[1] + other[1]))
    return both.order() == len(rows)


def split(group, one, other, p):
    """Return a pair of an element of one and an element of other whose product is p, None if there is none."""
    check_groups(group, one, other)
    check_permutation(group[0], p)
    _check_parts(group, one, other)
    second = tower_of(other)
    for h in Span(one[0], one[1]).rows:
        rest = compose(invert(h), p)
        if second.holds(rest):
            return h, rest
    return None


def composition(group):
    """Return a composition series of the group."""
    check_groups(group)
    check_most(group, MOST_SERIES)
    return _series(group, Span(group[0]))


def composition_through(group, normal):
    """Return a composition series of the group that contains a normal subgroup."""
    check_groups(group, normal)
    check_subgroup(group, normal)
    check_normal(group, normal)
    check_most(group, MOST_SERIES)
    below = _series(normal, Span(normal[0]))
    return below + _series(group, Span(normal[0], normal[1]))[1:]


def shows_composition(group, value):
    """Tell whether any value is a composition series of the group."""
    check_groups(group)
    check_most(group, MOST_SERIES)
    whole = Span(group[0], group[1])
    if type(value) is not tuple or not all([is_element_list(whole, rows) for rows in value]):
        return False
    if value == () or value[0] != (unit(group[0]),) or value[-1] != whole.listed():
        return False
    return all([_is_step(rows, above) for rows, above in zip(value, value[1:])])


def factor_orders(group):
    """Return the ascending tuple of the orders of the factors of a composition series."""
    series = composition(group)
    return tuple(sorted([len(above) // len(rows) for rows, above in zip(series, series[1:])]))


def _check_parts(group, one, other):
    check_subgroup(group, one)
    check_subgroup(group, other)
    check_most(group, MOST_LISTED)


def _products(group, one, other):
    _check_parts(group, one, other)
    found = {}
    rows = listed(other, MOST_LISTED)
    for h in listed(one, MOST_LISTED):
        # The products with the elements of other are all new, or none of them is.
        if h not in found:
            for k in rows:
                found[compose(h, k)] = True
    return tuple(sorted(found))


def _series(group, bottom):
    """Return the members of a composition series from a normal subgroup up."""
    span = Span(group[0], group[1])
    members = [span.listed()]
    while len(span.rows) > len(bottom.rows):
        span = _greatest_below(span, bottom)
        members.append(span.listed())
    return tuple(reversed(members))


def _greatest_below(whole, bottom):
    """Return a normal subgroup above a lesser one, such that none lies between it and the whole."""
    greatest = bottom
    for p in whole.rows:
        if not greatest.holds(p):
            wider = _normal_above(whole, greatest, p)
            # What an element made with fewer elements, it makes with more of them.
            if len(wider.rows) < len(whole.rows):
                greatest = wider
    return greatest


def _normal_above(whole, part, p):
    """Return the least normal subgroup with a normal subgroup and one more element."""
    wider = Span(len(p), [*part.generators, p])
    wider.close(whole.generators)
    return wider


def _is_step(rows, above):
    """Tell whether a subgroup is normal in another one, smaller, and has no normal one between."""
    degree = len(rows[0])
    part, whole = Span(degree, rows), Span(degree, above)
    if len(rows) >= len(above) or not whole.holds_all(rows):
        return False
    closed = Span(degree, rows)
    closed.close(whole.generators)
    if len(closed.rows) > len(rows):
        return False
    return len(_greatest_below(whole, part).rows) == len(rows)
