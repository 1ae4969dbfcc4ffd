"""Sets of points: their stabilizers, their images, and one set for each orbit."""

from itertools import combinations

from stronggens.checks import are_ascending_points, check_group, check_number
from stronggens.errors import BadSet
from stronggens.programs import spelled
from stronggens.stabilizers import act_on_set, generators_fixing
from stronggens.tours import reached


def set_stabilizer(group, points):
    """Return a group whose elements are those that take a set to itself."""
    _check_sets(group, points)
    return group[0], tuple(generators_fixing(group, points, act_on_set))


def least_image(group, points):
    """Return the least of the images of a set."""
    _check_sets(group, points)
    return min(reached(points, group[1], act_on_set))


def set_mover(group, points, other):
    """Return a program whose value takes one set to another, None if no element does."""
    _check_sets(group, points, other)
    roads = reached(points, group[1], act_on_set)
    if other not in roads:
        return None
    letters = []
    while roads[other] is not None:
        other, index = roads[other]
        letters.append(index + 1)
    return spelled(tuple(reversed(letters)))


def orbit_of_set(group, points):
    """Return the ascending tuple of all images of a set."""
    _check_sets(group, points)
    return tuple(sorted(reached(points, group[1], act_on_set)))


def least_sets(group, size):
    """Return the ascending tuple of the sets with so many points that are their own least images."""
    check_group(group)
    check_number(size, 0, group[0])
    return tuple(_least_sets(group, size))


def set_counts(group):
    """Return the tuple of the numbers of orbits on the sets with 0, 1, 2, .. points."""
    check_group(group)
    return tuple([len(_least_sets(group, size)) for size in range(group[0] + 1)])


def _check_sets(group, *values):
    """Raise BadGroup for a value that is not a group, and BadSet for a value that is not a set of its points."""
    check_group(group)
    for value in values:
        if not are_ascending_points(group[0], value):
            raise BadSet("not an ascending tuple of different points")


def _least_sets(group, size):
    found = []
    seen = set()
    # The sets come in ascending order, so the first one of an orbit is its least one.
    for points in combinations(range(group[0]), size):
        if points not in seen:
            found.append(points)
            for image in reached(points, group[1], act_on_set):
                seen.add(image)
    return found
