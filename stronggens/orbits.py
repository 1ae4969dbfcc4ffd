"""Orbits of points, tuples and pairs, and stabilizers of points."""

from stronggens.checks import are_distinct_points, check_group, check_number, check_point
from stronggens.errors import BadPoints
from stronggens.tours import act_on_point, act_on_points, fixing, least_word, orbit_list, orbit_of, reached


def orbit(group, point):
    """Return the ascending tuple of the points to which elements of the group take a point."""
    check_group(group)
    degree, generators = group
    check_point(degree, point)
    return orbit_of(generators, point)


def orbits(group):
    """Return the list of all orbits, ordered by their least points."""
    check_group(group)
    degree, generators = group
    return orbit_list(degree, generators)


def is_transitive(group):
    """Tell whether there is just one orbit."""
    return len(orbits(group)) == 1


def path(group, one, other):
    """Return the least word that takes one point to another, None if there is none."""
    check_group(group)
    degree, generators = group
    check_point(degree, one)
    check_point(degree, other)
    return least_word(generators, one, other, act_on_point)


def tuple_path(group, one, other):
    """Return the least word that takes one tuple of distinct points to another, None if there is none."""
    check_group(group)
    degree, generators = group
    for points in (one, other):
        if not are_distinct_points(degree, points):
            raise BadPoints("not a tuple of distinct points")
    if len(one) != len(other):
        raise BadPoints("the tuples have different lengths")
    return least_word(generators, one, other, act_on_points)


def transitivity(group):
    """Return the greatest k such that each tuple of k distinct points can be taken to each other one."""
    check_group(group)
    degree, generators = group
    point = 0
    while point < degree and len(orbit_of(generators, point)) == degree - point:
        generators = fixing(degree, generators, point)
        point += 1
    return point


def point_stabilizer(group, point):
    """Return a group whose elements are those of the group that fix a point."""
    check_group(group)
    degree, generators = group
    check_point(degree, point)
    return degree, tuple(fixing(degree, generators, point))


def suborbits(group, point):
    """Return the list of the orbits of a point's stabilizer."""
    return orbits(point_stabilizer(group, point))


def pair_orbits(group):
    """Return the list of the orbits of the ordered pairs of points, ordered by their least pairs."""
    check_group(group)
    degree, generators = group
    rows = []
    seen = set()
    for a in range(degree):
        for b in range(degree):
            if (a, b) not in seen:
                row = sorted(reached((a, b), generators, act_on_points))
                for pair in row:
                    seen.add(pair)
                rows.append(tuple(row))
    return rows


def rank(group):
    """Return the number of the pair orbits."""
    return len(pair_orbits(group))


def mirror(group, number):
    """Return the index of the pair orbit of the reversed pairs of the one with an index."""
    rows = pair_orbits(group)
    check_number(number, 0, len(rows) - 1)
    return _mirror_index(rows, number)


def self_paired(group):
    """Return the number of the pair orbits that are their own mirrors."""
    rows = pair_orbits(group)
    return len([number for number in range(len(rows)) if _mirror_index(rows, number) == number])


def _mirror_index(rows, number):
    a, b = rows[number][0]
    return [index for index, row in enumerate(rows) if (b, a) in row][0]
