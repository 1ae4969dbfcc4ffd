"""Elements of a group that carry permutations to others by conjugation."""

from stronggens.checks import MOST_CONJUGATED, check_group, is_permutation, is_row
from stronggens.errors import BadTuple
from stronggens.members import check_most
from stronggens.quick import conjugated
from stronggens.searches import Alike, Inside, Search
from stronggens.sifting import membership
from stronggens.tours import act_on_point, reached

MOST_ELEMENTS = 2000


def conjugating(group, some, other):
    """Return a program for an element that makes other the conjugates of some, None if there is none."""
    _check_perms(group, some)
    _check_perms(group, other)
    if len(some) != len(other):
        raise BadTuple("the tuples have different lengths")
    points = _points(group[0], some)
    search = Search(points, [Alike(some, other, points), Inside(group, points)])
    p = search.any_one(_commuting(group, other))
    return None if p is None else membership(group, p)


def least_conjugate(group, some):
    """Return the least of the conjugates of some by all elements of the group."""
    _check_perms(group, some)
    check_most(group, MOST_ELEMENTS)
    return min(reached(some, group[1], _conjugates, MOST_ELEMENTS))


def commuting(group, some):
    """Return a group whose elements are those of the group by which the conjugates of some are some itself."""
    _check_perms(group, some)
    return group[0], tuple(_commuting(group, some))


def _check_perms(group, value):
    check_group(group)
    if not is_row(value, MOST_CONJUGATED) or not all(is_permutation(group[0], p) for p in value):
        raise BadTuple("not a tuple of at most 6 permutations of the degree")


def _commuting(group, some):
    points = _points(group[0], some)
    return Search(points, [Alike(some, some, points), Inside(group, points)]).generated()


def _conjugates(some, g):
    return tuple([conjugated(p, g) for p in some])


def _points(degree, some):
    """Return all points, those of one orbit of some side by side, those of great orbits ahead."""
    # Where one point of an orbit goes tells where all of them go.
    rows = sorted([list(reached(point, some, act_on_point)) for point in range(degree)], key=lambda row: -len(row))
    points = []
    for row in rows:
        for point in row:
            if point not in points:
                points.append(point)
    return points
