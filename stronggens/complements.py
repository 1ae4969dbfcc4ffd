"""Complements of normal subgroups, and the crossed maps that lead to them."""

from stronggens.checks import is_tuple_of
from stronggens.errors import BadMap, NotComplement
from stronggens.frames import Frame, all_parts
from stronggens.members import check_groups, check_most, check_normal, check_subgroup, order_of
from stronggens.quick import compose, conjugated, invert
from stronggens.spans import Span, is_element
from stronggens.towers import listed, tower_of

MOST_ELEMENTS = 60


def complements(group, normal):
    """Return the list of the complements of a normal subgroup as element lists."""
    check_groups(group, normal)
    check_subgroup(group, normal)
    check_most(group, MOST_ELEMENTS)
    check_normal(group, normal)
    return _complements(group, normal)


def crossed_maps(group, normal, complement):
    """Return the ascending list of all crossed maps from a complement to a normal subgroup."""
    _check_complement(group, normal, complement)
    rows = listed(complement, MOST_ELEMENTS)
    return sorted([_crossed_map(rows, normal, part) for part in _complements(group, normal)])


def complement_of(group, normal, complement, value):
    """Return the complement, as an element list, to which a crossed map leads."""
    _check_complement(group, normal, complement)
    rows = listed(complement, MOST_ELEMENTS)
    if not _is_crossed(rows, normal, value):
        raise BadMap("not a crossed map")
    return tuple(sorted([compose(p, worth) for p, worth in zip(rows, value)]))


def _check_complement(group, normal, complement):
    """Raise the error that is due unless the values are a group, a normal subgroup and a complement of it."""
    check_groups(group, normal, complement)
    check_subgroup(group, normal)
    check_subgroup(group, complement)
    check_most(group, MOST_ELEMENTS)
    check_normal(group, normal)
    if order_of(complement) * order_of(normal) != order_of(group) or not _meets_in_one(normal, complement):
        raise NotComplement("not a complement of the normal subgroup")


def _meets_in_one(normal, complement):
    """Tell whether two groups have just the identity in common."""
    tower = tower_of(normal)
    return len([p for p in listed(complement, MOST_ELEMENTS) if tower.holds(p)]) == 1


def _complements(group, normal):
    frame = Frame(listed(group, MOST_ELEMENTS))
    numbers = [frame.numbers[p] for p in listed(normal, MOST_ELEMENTS)]
    size = len(frame.rows) // len(numbers)
    found = [part for part in all_parts(frame) if len(part.numbers) == size]
    return [frame.written(part) for part in found if len([n for n in numbers if part.holds(n)]) == 1]


def _crossed_map(rows, normal, part):
    """Return the crossed map from a complement, told by its element list, that leads to another one."""
    tower = tower_of(normal)
    values = []
    for p in rows:
        turned = invert(p)
        # Just one element of the other complement lies in the coset of p.
        values.extend([compose(turned, q) for q in part if tower.holds(compose(turned, q))])
    return tuple(values)


def _is_crossed(rows, normal, value):
    """Tell whether any value is a crossed map from the elements of a complement to a normal subgroup."""
    span = Span(normal[0], normal[1])
    if not is_tuple_of(value, len(rows)) or not all([is_element(span, p) for p in value]):
        return False
    told = {p: worth for p, worth in zip(rows, value)}
    return all([told[compose(p, q)] == compose(conjugated(told[p], q), told[q]) for p in rows for q in rows])
