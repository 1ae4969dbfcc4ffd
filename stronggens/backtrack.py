"""What two groups have in common, and elements that carry tuples of points."""

from stronggens.checks import are_points, check_group, check_two_groups
from stronggens.errors import BadTuple
from stronggens.quick import compose
from stronggens.searches import common_generators
from stronggens.sifting import membership
from stronggens.towers import tower_of


def meet(group, other):
    """Return a group whose elements are those that both groups have."""
    check_two_groups(group, other)
    return group[0], tuple(common_generators(group, other))


def carry_tuple(group, points, images):
    """Return a program whose value carries each entry of one tuple to that of the other, None if there is none."""
    check_group(group)
    _check_tuple(group[0], points)
    _check_tuple(group[0], images)
    if len(points) != len(images):
        raise BadTuple("the tuples have different lengths")
    told = {}
    for point, image in zip(points, images):
        if told.setdefault(point, image) != image:
            return None
    p = _carrying(group, told)
    return None if p is None else membership(group, p)


def _check_tuple(degree, value):
    if not are_points(degree, value):
        raise BadTuple("not a tuple of points")


def _carrying(group, told):
    """Return an element that carries each key to its value, None if there is none."""
    tower = tower_of(group, list(told))
    made = tower.one
    for floor, image in zip(tower.floors, told.values()):
        # What is made so far carries the points ahead as told, and what comes ahead of it fixes them.
        before = made.index(image)
        if before not in floor.forth:
            return None
        made = compose(floor.forth[before], made)
    return made
