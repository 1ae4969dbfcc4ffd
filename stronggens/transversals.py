"""Transversals of a group at a point, and the generators of the point's stabilizer that come from them."""

from stronggens.checks import check_group, check_point, is_permutation, is_point, is_tuple_of
from stronggens.errors import BadTransversal
from stronggens.tours import carry_table, loops, orbit_of
from stronggens.towers import tower_of


def transversal(group, point):
    """Return, for each image of a point, the pair of the image and an element that carries the point to it."""
    check_group(group)
    degree, generators = group
    check_point(degree, point)
    return tuple(sorted(carry_table(degree, generators, point).items()))


def shows_transversal(group, point, value):
    """Tell whether any value is a transversal of the group at a point."""
    check_group(group)
    degree, generators = group
    check_point(degree, point)
    images = orbit_of(generators, point)
    if not is_tuple_of(value, len(images)):
        return False
    if not all([_is_pair(degree, point, image, pair) for image, pair in zip(images, value)]):
        return False
    tower = tower_of(group)
    return all([tower.holds(p) for _, p in value])


def schreier_generators(group, point, pairs):
    """Return the ascending tuple of the products that lead along a transversal, a generator, and back."""
    if not shows_transversal(group, point, pairs):
        raise BadTransversal("not a transversal of the group at the point")
    table = {image: p for image, p in pairs}
    return tuple(sorted(set(loops(group[1], table))))


def _is_pair(degree, point, image, value):
    """Tell whether a value is a pair of an image and a permutation that carries the point to it."""
    if not is_tuple_of(value, 2) or not is_point(degree, value[0]) or value[0] != image:
        return False
    return is_permutation(degree, value[1]) and value[1][point] == image
