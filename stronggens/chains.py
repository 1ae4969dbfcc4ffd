"""Chains of point stabilizers: base points, orders, chains, and what is wrong with a value that is no chain."""

from stronggens.checks import (
    are_ascending_points, check_group, check_number, check_prefix, is_permutation, is_point, is_tuple_of,
)
from stronggens.errors import NotChain
from stronggens.quick import compose, invert
from stronggens.towers import tower_of


def base_points(group, *, prefix=()):
    """Return the points of the prefix and, behind them, the least points that what fixes all before them moves."""
    return tuple([floor.point for floor in _floors(group, prefix)])


def orbit_sizes(group, *, prefix=()):
    """Return the sizes of the orbits of the levels, one for each base point."""
    return tuple([len(floor.forth) for floor in _floors(group, prefix)])


def order(group):
    """Return the number of elements of a group."""
    check_group(group)
    return tower_of(group).order()


def chain(group, *, prefix=()):
    """Return a chain of the group whose points are its base points."""
    return _chain_of(_floors(group, prefix))


def shows_chain(group, value):
    """Tell whether any value is a chain of the group."""
    return chain_gap(group, value) is None


def chain_gap(group, value):
    """Return the first thing that keeps a value from being a chain of the group, None if nothing does."""
    check_group(group)
    degree, generators = group
    at = _first_unshaped(degree, value)
    if at is not None:
        return "shape", at
    towers = [tower_of((degree, level[1])) for level in value]
    towers.append(tower_of((degree, ())))
    for index, p in enumerate(generators):
        if not towers[0].holds(p):
            return "missing", index
    above = tower_of(group)
    for at, level in enumerate(value):
        gap = _level_gap(at, level, above, towers[at], towers[at + 1])
        if gap is not None:
            return gap
        above = towers[at]
    return None


def base_swap(group, value, level):
    """Return a chain of the group with the points of two neighboring levels of a given chain swapped."""
    if not shows_chain(group, value):
        raise NotChain("not a chain of the group")
    check_number(level, 0, len(value) - 2)
    points = [told[0] for told in value]
    points[level], points[level + 1] = points[level + 1], points[level]
    return _chain_of(tower_of(group, points).floors[:len(points)])


def _floors(group, prefix):
    """Return the floors of a group over its base points."""
    check_group(group)
    check_prefix(group[0], prefix)
    tower = tower_of(group, prefix)
    tower.trim(len(prefix))
    return tower.floors


def _chain_of(floors):
    return tuple([(floor.point, tuple(floor.generators), tuple(sorted(floor.forth.items()))) for floor in floors])


def _first_unshaped(degree, value):
    """Return the index of the first level that is not well shaped, None if all are."""
    if type(value) is not tuple:
        return 0
    points = []
    for at, level in enumerate(value):
        if not _is_shaped(degree, points, level):
            return at
        points.append(level[0])
    return None


def _is_shaped(degree, fixed, level):
    """Tell whether a level is well shaped behind levels with the fixed points."""
    if not is_tuple_of(level, 3):
        return False
    point, generators, pairs = level
    if not is_point(degree, point) or point in fixed:
        return False
    if type(generators) is not tuple or type(pairs) is not tuple or not all(is_tuple_of(pair, 2) for pair in pairs):
        return False
    images = tuple([pair[0] for pair in pairs])
    if not are_ascending_points(degree, images) or point not in images:
        return False
    perms = list(generators) + [pair[1] for pair in pairs]
    if not all(is_permutation(degree, p) for p in perms):
        return False
    return all(p[x] == x for p in perms for x in fixed) and all(p[point] == image for image, p in pairs)


def _level_gap(at, level, above, here, below):
    """Return the first thing that is wrong with a well shaped level, None if nothing is.

    Told are the towers of the level ahead of it (of the group for the first one), of the level and of the next one.
    """
    generators, pairs = level[1], level[2]
    table = {image: p for image, p in pairs}
    for index, p in enumerate(generators):
        if not above.holds(p):
            return "generator", at, index
    for image in table:
        for index, p in enumerate(generators):
            if p[image] not in table:
                return "orbit", at, image, index
    for image, carry in pairs:
        if not here.holds(carry):
            return "transversal", at, image
    for image, carry in pairs:
        for index, p in enumerate(generators):
            if not below.holds(compose(compose(carry, p), invert(table[p[image]]))):
                return "schreier", at, image, index
    return None
