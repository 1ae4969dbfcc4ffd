"""G-sets: how generators, and by them all elements, of a group move points of their own."""

from stronggens.checks import check_group, is_permutation, is_tuple_of
from stronggens.errors import BadGroup, BadGset
from stronggens.mappings import Mapping
from stronggens.towers import Tower

MOST_SIZE = 60
MOST_ELEMENTS = 2000


def is_moving(many, value):
    """Tell whether a value is a tuple of so many permutations, at least one, of one size from 1 to 60."""
    if not is_tuple_of(value, many) or many == 0 or type(value[0]) is not tuple:
        return False
    size = len(value[0])
    return 1 <= size <= MOST_SIZE and all(is_permutation(size, p) for p in value)


def acts(group, gset):
    """Tell whether permutations of points follow all that holds of the generators of a group."""
    degree, generators = group
    size = len(gset[0])
    # Each generator moves the group's own points and, behind them, the others: what fixes all of its own may move none.
    joined = [p + tuple([degree + x for x in q]) for p, q in zip(generators, gset)]
    return not Tower(degree + size, joined, list(range(degree))).is_blind


def check_acting(group):
    """Raise BadGroup for a value that is not a group, and for a group without generators, which has no G-set."""
    check_group(group)
    if group[1] == ():
        raise BadGroup(None)


def check_gset(group, value):
    """Raise BadGset for a value that is not a G-set of a group."""
    if not is_moving(len(group[1]), value) or not acts(group, value):
        raise BadGset("not a G-set of the group")


def images_by(group, gset):
    """Return a dict from each element of a group to its image in a G-set."""
    return Mapping(group[0], len(gset[0]), group[1], gset).table


def fixed_by(perms, size):
    """Return the ascending list of the points that all of some permutations fix."""
    return [x for x in range(size) if all([p[x] == x for p in perms])]


def spread(one, other, point, image):
    """Return how the orbit of a point of one goes to other, the point to its image; None if it cannot.

    It is a dict in which, for each generator, the image of the carried point is the carried image.
    """
    images = {point: image}
    queue = [point]
    at = 0
    while at < len(queue):
        here = queue[at]
        for p, q in zip(one, other):
            target = q[images[here]]
            if p[here] not in images:
                images[p[here]] = target
                queue.append(p[here])
            elif images[p[here]] != target:
                return None
        at += 1
    return images
