"""What lies in a group, and the errors for what does not."""

from stronggens.checks import check_group, check_permutation
from stronggens.errors import NotMember, NotNormal, NotSubgroup, TooMany
from stronggens.quick import conjugated
from stronggens.towers import tower_of


def order_of(group):
    """Return the number of elements of a group."""
    return tower_of(group).order()


def check_most(group, most):
    """Raise TooMany if a group has more than so many elements."""
    if order_of(group) > most:
        raise TooMany(most)


def check_member(group, p):
    """Raise NotMember if a permutation of the group's degree is not an element of the group."""
    if not tower_of(group).holds(p):
        raise NotMember("not an element of the group")


def check_subgroup(group, part):
    """Raise NotSubgroup if a group is of another degree or has an element that the group has not."""
    if part[0] != group[0]:
        raise NotSubgroup("of another degree")
    tower = tower_of(group)
    if not all([tower.holds(p) for p in part[1]]):
        raise NotSubgroup("some element is not one of the group")


def check_normal(group, part):
    """Raise NotNormal if a subgroup is not normal."""
    tower = tower_of(part)
    if not all([tower.holds(conjugated(p, g)) for p in part[1] for g in group[1]]):
        raise NotNormal("some conjugate is not an element of the subgroup")


def check_element(group, p):
    """Raise BadPermutation or NotMember for a value that is not an element of a group."""
    check_permutation(group[0], p)
    check_member(group, p)


def check_groups(*groups):
    """Raise BadGroup for the first value that is not a group."""
    for group in groups:
        check_group(group)
