"""Invariant partitions, primitivity, and the groups that belong to blocks."""

from stronggens.checks import (
    are_ascending_points, are_points, check_group, check_number, check_point, is_between, is_row, is_tuple_of,
)
from stronggens.errors import BadPartition, BadSet, NotInvariant, NotTransitive
from stronggens.forests import few
from stronggens.orbits import is_transitive, orbit, pair_orbits
from stronggens.partitions import (
    block_image, is_any_partition, is_kept, is_partition, join_of, linked, meet_of, neighbors,
)
from stronggens.tours import fixing, reached
from stronggens.towers import listed

LONGEST_WALK = 60
MOST_LISTED = 2000


def is_invariant(group, partition):
    """Tell whether each element of the group takes each block to a block."""
    check_group(group)
    degree, generators = group
    _check_partition(degree, partition)
    return is_kept(generators, partition)


def finest(group, points):
    """Return the finest invariant partition in which all points of an ascending tuple are in one block."""
    check_group(group)
    degree, generators = group
    if not are_ascending_points(degree, points):
        raise BadSet("not an ascending tuple of points")
    return linked(degree, generators, neighbors(points))


def joined(one, other):
    """Return the finest partition that is coarser than, or equal to, both."""
    _check_two_partitions(one, other)
    return join_of(one, other)


def common(one, other):
    """Return the coarsest partition that is finer than, or equal to, both."""
    _check_two_partitions(one, other)
    return meet_of(one, other)


def block_systems(group):
    """Return the list of all invariant partitions of a transitive group, those with more blocks first."""
    _check_transitive(group)
    degree, generators = group
    bottom = linked(degree, generators, [])
    # Each invariant partition joins such as are told by one point in the block of point 0.
    basic = [linked(degree, generators, [(0, point)]) for point in range(1, degree)]
    return sorted(reached(bottom, basic, join_of), key=lambda system: (-len(system), system))


def is_primitive(group):
    """Tell whether a group is transitive, of degree 2 or more, and has only two invariant partitions."""
    check_group(group)
    return group[0] > 1 and is_transitive(group) and len(block_systems(group)) == 2


def primitivity(group):
    """Return a certificate that the group is primitive, or that it is not."""
    check_group(group)
    degree = group[0]
    if degree == 1:
        return ("point",)
    if not is_transitive(group):
        return "orbit", orbit(group, 0)
    systems = block_systems(group)
    if len(systems) > 2:
        return "blocks", systems[1]
    return "walks", tuple([_walk(degree, _graph(degree, pairs)) for pairs in _unlike(group)])


def shows_primitivity(group, value):
    """Tell whether any value is a certificate that the group is primitive, or that it is not."""
    check_group(group)
    degree, generators = group
    if is_tuple_of(value, 1):
        return value[0] == "point" and degree == 1
    if not is_tuple_of(value, 2):
        return False
    kind, told = value
    if kind == "orbit":
        return _shows_orbit(degree, generators, told)
    if kind == "blocks":
        return _shows_blocks(group, told)
    return kind == "walks" and _shows_walks(group, told)


def block_group(group, partition, number):
    """Return a group of the elements that take the block with an index to itself."""
    _check_invariant(group, partition)
    check_number(number, 0, len(partition) - 1)
    degree = group[0]
    return _cut(degree, fixing(degree + len(partition), _with_blocks(group, partition), degree + number))


def on_blocks(group, partition):
    """Return the group, generator by generator, that acts on the indexes of the blocks."""
    _check_invariant(group, partition)
    return len(partition), tuple([block_image(partition, p) for p in group[1]])


def kernel_on_blocks(group, partition):
    """Return a group of the elements that take each block to itself."""
    _check_invariant(group, partition)
    degree = group[0]
    generators = _with_blocks(group, partition)
    for number in range(len(partition)):
        generators = fixing(degree + len(partition), generators, degree + number)
    return _cut(degree, generators)


def above_stabilizer(group, point):
    """Return the list of all subgroups of a transitive group that contain the stabilizer of a point."""
    check_group(group)
    check_point(group[0], point)
    _check_transitive(group)
    rows = listed(group, MOST_LISTED)
    # There is one such subgroup for each invariant partition: it keeps the block of the point.
    blocks = [[block for block in system if point in block][0] for system in block_systems(group)]
    found = [tuple([p for p in rows if p[point] in block]) for block in blocks]
    return sorted(found, key=lambda part: (len(part), part))


def _check_partition(degree, value):
    if not is_partition(degree, value):
        raise BadPartition(f"not a partition of the points 0 to {degree - 1}")


def _check_two_partitions(one, other):
    if not is_any_partition(one):
        raise BadPartition("not a partition")
    _check_partition(sum([len(block) for block in one]), other)


def _check_transitive(group):
    if not is_transitive(group):
        raise NotTransitive("the group has more than one orbit")


def _check_invariant(group, partition):
    if not is_invariant(group, partition):
        raise NotInvariant("some element takes a block to what is none")


def _with_blocks(group, partition):
    """Return the generators, acting on the points and, behind them, on the blocks as further points."""
    degree, generators = group
    return [p + tuple([degree + number for number in block_image(partition, p)]) for p in generators]


def _cut(degree, generators):
    """Return the group that the generators make on the first points."""
    return degree, tuple(few([p[:degree] for p in generators]))


def _unlike(group):
    """Return the pair orbits of pairs of unlike points, in their order."""
    return [row for row in pair_orbits(group) if row[0][0] != row[0][1]]


def _graph(degree, pairs):
    """Return, for each point, a dict of the points that are joined to it."""
    graph = [{} for _ in range(degree)]
    for a, b in pairs:
        graph[a][b] = True
        graph[b][a] = True
    return graph


def _walk(degree, graph):
    """Return a walk that begins with 0 and goes, forth and back, along a tree through all points."""
    walk = [0]
    trail = [0]
    while trail:
        fresh = [point for point in range(degree) if point in graph[trail[-1]] and point not in walk]
        if fresh:
            trail.append(fresh[0])
        else:
            trail.pop()
        if trail:
            walk.append(trail[-1])
    return tuple(walk)


def _shows_orbit(degree, generators, points):
    if not are_ascending_points(degree, points) or not is_between(len(points), 1, degree - 1):
        return False
    return all(p[point] in points for p in generators for point in points)


def _shows_blocks(group, partition):
    degree = group[0]
    if not is_partition(degree, partition) or not is_between(len(partition), 2, degree - 1):
        return False
    return is_transitive(group) and is_kept(group[1], partition)


def _shows_walks(group, walks):
    degree = group[0]
    if degree == 1 or not is_transitive(group):
        return False
    rows = _unlike(group)
    if not is_tuple_of(walks, len(rows)):
        return False
    return all([_is_walk(degree, _graph(degree, pairs), walk) for pairs, walk in zip(rows, walks)])


def _is_walk(degree, graph, value):
    if not is_row(value, LONGEST_WALK) or not are_points(degree, value) or value[:1] != (0,):
        return False
    return len(set(value)) == degree and all([b in graph[a] for a, b in neighbors(value)])
