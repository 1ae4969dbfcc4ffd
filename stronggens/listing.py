"""Elements in ascending order: all of them, by their numbers, and the least ones of cosets."""

from stronggens.checks import check_group, check_number, check_permutation
from stronggens.errors import NotMember
from stronggens.quick import compose, invert
from stronggens.towers import listed, tower_of

MOST_LISTED = 2000


def all_elements(group):
    """Return the ascending tuple of all elements."""
    return listed(group, MOST_LISTED)


def element(group, place):
    """Return the element with a number, counted from 0 in ascending order."""
    check_group(group)
    tower = tower_of(group)
    check_number(place, 0, tower.order() - 1)
    return _numbered(tower, place)


def rank_of(group, p):
    """Return the number of an element."""
    below, is_member = _below(_tower(group, p), p)
    if not is_member:
        raise NotMember("not an element of the group")
    return below


def count_below(group, p):
    """Return how many elements are less than a permutation."""
    return _below(_tower(group, p), p)[0]


def next_element(group, p):
    """Return the least element that is greater than a permutation, None if there is none."""
    tower = _tower(group, p)
    below, is_member = _below(tower, p)
    place = below + 1 if is_member else below
    return _numbered(tower, place) if place < tower.order() else None


def least_in_coset(group, p, *, left=False):
    """Return the least product of any element and p, or of p and any element if left is True."""
    tower = _tower(group, p)
    if left:
        # The first image of a product with p on the left is that of p's first image, and so on.
        return compose(p, _least(tower_of(group, p), tower.one))
    return _least(tower, p)


def same_coset(group, p, q, *, left=False):
    """Tell whether p and q have the same right coset, or the same left coset if left is True."""
    tower = _tower(group, p)
    check_permutation(group[0], q)
    return tower.holds(compose(invert(p), q) if left else compose(p, invert(q)))


def _tower(group, p):
    """Return the tower of a group over its points in ascending order, if p is a permutation of its degree."""
    check_group(group)
    check_permutation(group[0], p)
    return tower_of(group)


def _numbered(tower, place):
    """Return the element with a number that is less than the order."""
    made = tower.one
    share = tower.order()
    for floor in tower.floors:
        share = share // len(floor.forth)
        images = sorted([(made[image], image) for image in floor.forth])
        made = compose(floor.forth[images[place // share][1]], made)
        place = place % share
    return made


def _below(tower, p):
    """Return how many elements are less than p, and whether p is one itself."""
    made = tower.one
    share = tower.order()
    below = 0
    for floor in tower.floors:
        share = share // len(floor.forth)
        target = p[floor.point]
        below += share * len([image for image in floor.forth if made[image] < target])
        fitting = [image for image in floor.forth if made[image] == target]
        if not fitting:
            return below, False
        made = compose(floor.forth[fitting[0]], made)
    return below, True


def _least(tower, made):
    """Return the product of an element and made whose images of the tower's points, in their order, are least."""
    for floor in tower.floors:
        _, image = min([(made[image], image) for image in floor.forth])
        made = compose(floor.forth[image], made)
    return made
