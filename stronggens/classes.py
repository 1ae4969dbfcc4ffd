"""Classes of conjugate elements, and how often products of two classes fall on an element."""

from stronggens.checks import check_group
from stronggens.mappings import class_lists
from stronggens.members import check_element, check_most
from stronggens.quick import compose, conjugated, invert
from stronggens.tours import reached
from stronggens.towers import listed

MOST_ELEMENTS = 2000
MOST_MULTIPLIED = 60


def classes(group):
    """Return the list of the classes of conjugate elements, ordered by their least elements."""
    rows = listed(group, MOST_ELEMENTS)
    return class_lists(group[1], rows)


def class_of(group, p):
    """Return the class of an element."""
    check_group(group)
    check_most(group, MOST_ELEMENTS)
    check_element(group, p)
    return tuple(sorted(reached(p, group[1], conjugated)))


def commuting_pairs(group):
    """Return the number of pairs of elements with the same product in both orders."""
    rows = listed(group, MOST_ELEMENTS)
    return len(rows) * len(class_lists(group[1], rows))


def class_constants(group):
    """Return, for classes i, j, k, how many pairs from i and j have one given element of k as their product."""
    rows = listed(group, MOST_MULTIPLIED)
    told = class_lists(group[1], rows)
    return tuple([tuple([tuple([_pairs(one, other, row[0]) for row in told]) for other in told]) for one in told])


def _pairs(one, other, p):
    """Return the number of pairs of elements of two classes whose product is p."""
    return len([q for q in one if compose(invert(q), p) in other])
