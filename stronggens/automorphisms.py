"""Isomorphisms of small groups, what tells groups apart, and automorphisms."""

from stronggens.checks import check_group, is_tuple_of
from stronggens.errors import TooMany
from stronggens.mappings import Mapping, class_lists, first_no_image, isomorphisms
from stronggens.members import check_groups, check_most, order_of
from stronggens.quick import compose, conjugated, period
from stronggens.towers import listed

MOST_ELEMENTS = 24
MOST_MAPS = 2000


def isomorphism(one, other):
    """Return images of the generators of one that extend to an isomorphism to other, None if there are none."""
    _check(one, other)
    found = isomorphisms(one, other, 1)
    return found[0] if found else None


def shows_isomorphism(one, other, value):
    """Tell whether any value is a tuple of images that extend to an isomorphism."""
    _check(one, other)
    if not is_tuple_of(value, len(one[1])) or first_no_image(other, value) is not None:
        return False
    if order_of(one) != order_of(other):
        return False
    told = Mapping(one[0], other[0], one[1], value)
    return told.gap is None and told.is_injective()


def difference(one, other):
    """Return what tells that groups are not isomorphic, None if they are."""
    _check(one, other)
    some, others = listed(one, MOST_ELEMENTS), listed(other, MOST_ELEMENTS)
    if len(some) != len(others):
        return "order", len(some), len(others)
    for n in range(1, len(some) + 1):
        a, b = _number_of_order(some, n), _number_of_order(others, n)
        if a != b:
            return "elements", n, a, b
    a, b = len(class_lists(one[1], some)), len(class_lists(other[1], others))
    if a != b:
        return "classes", a, b
    a, b = _number_of_squares(some), _number_of_squares(others)
    if a != b:
        return "squares", a, b
    return None if isomorphisms(one, other, 1) else ("map",)


def automorphisms(group):
    """Return the ascending list of the images of the generators by all automorphisms."""
    check_group(group)
    check_most(group, MOST_ELEMENTS)
    found = isomorphisms(group, group, MOST_MAPS + 1)
    if len(found) > MOST_MAPS:
        raise TooMany(MOST_MAPS)
    return sorted(found)


def inner_automorphisms(group):
    """Return the ascending list of the generators conjugated by each element."""
    rows = listed(group, MOST_ELEMENTS)
    return sorted(set([tuple([conjugated(p, g) for p in group[1]]) for g in rows]))


def _check(one, other):
    check_groups(one, other)
    check_most(one, MOST_ELEMENTS)
    check_most(other, MOST_ELEMENTS)


def _number_of_order(rows, n):
    return len([p for p in rows if period(p) == n])


def _number_of_squares(rows):
    return len(set([compose(p, p) for p in rows]))
