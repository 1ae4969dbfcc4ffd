"""Generators: which are needed, which make another group's, and how few will do."""

from stronggens.checks import check_group, check_two_groups
from stronggens.forests import edge_of, few, way
from stronggens.sifting import membership
from stronggens.towers import tower_of


def extra_generator(group, other):
    """Return the least index of a generator of other that is not an element of group, None if there is none."""
    check_two_groups(group, other)
    tower = tower_of(group)
    for index, p in enumerate(other[1]):
        if not tower.holds(p):
            return index
    return None


def inclusion(group, other):
    """Return programs over the generators of group for the generators of other, None if one is not an element."""
    if extra_generator(group, other) is not None:
        return None
    return tuple([membership(group, p) for p in other[1]])


def same(group, other):
    """Tell whether two groups have the same elements."""
    return extra_generator(group, other) is None and extra_generator(other, group) is None


def irredundant(group):
    """Return the indexes of the generators that are left when, from the last one, those not needed are dropped."""
    check_group(group)
    degree, generators = group
    kept = list(range(len(generators)))
    for index in reversed(range(len(generators))):
        others = [at for at in kept if at != index]
        if tower_of((degree, [generators[at] for at in others])).holds(generators[index]):
            kept = others
    return tuple(kept)


def edges(group):
    """Return the tuple of the edges of the generators, with None for the identity."""
    check_group(group)
    return tuple([edge_of(p) for p in group[1]])


def has_few(group):
    """Tell whether no generator is the identity and the edges form no cycle."""
    kept = []
    for edge in edges(group):
        if edge is None or way(kept, edge[0], edge[1]) is not None:
            return False
        kept.append(edge)
    return True


def with_few(group):
    """Return a group with the same elements whose generators are few."""
    check_group(group)
    degree, generators = group
    return degree, tuple(few(generators))
