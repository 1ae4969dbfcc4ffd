"""Subgroups of small groups, all of them by closing all pairs of elements, for the tests."""

import itertools

from brute import SMALL, WIDER, closure, cyc, members, ring, symmetric, times, turned

QUATERNIONS = (8, (cyc(8, (0, 1, 2, 3), (4, 5, 6, 7)), cyc(8, (0, 4, 2, 6), (1, 7, 3, 5))))
ALTERNATING_5 = (5, (cyc(5, (0, 1, 2)), cyc(5, (2, 3, 4))))
THIRTY = (8, (cyc(8, (0, 1, 2), (3, 4, 5, 6, 7)), cyc(8, (1, 2), (4, 7), (5, 6))))
TWENTY_ONE = WIDER[0]
FIFTY_SIX = (8, (cyc(8, (0, 1), (2, 3), (4, 5), (6, 7)), cyc(8, (0, 2), (1, 3), (4, 6), (5, 7)), cyc(8, (1, 2, 4, 3, 6, 7, 5))))
LINEAR_168 = (7, (cyc(7, (0, 1), (2, 3)), cyc(7, (0, 2, 4), (1, 5, 6))))
HEISENBERG = (9, (cyc(9, (0, 1, 2), (3, 4, 5), (6, 7, 8)), cyc(9, (0, 3, 6), (1, 4, 7), (2, 5, 8)), cyc(9, (3, 4, 5), (6, 8, 7))))
FIVE_PAIRS = (10, tuple(cyc(10, (2 * k, 2 * k + 1)) for k in range(5)))
LINEAR_SL3 = (8, (cyc(8, (0, 1, 2, 3), (4, 5, 6, 7)), cyc(8, (0, 4, 2, 6), (1, 7, 3, 5)), cyc(8, (1, 4, 5), (3, 6, 7))))
DICYCLIC_12 = (7, (cyc(7, (0, 1, 2)), cyc(7, (1, 2), (3, 4, 5, 6))))

UP_TO_24 = tuple(group for group in SMALL + (QUATERNIONS, TWENTY_ONE, DICYCLIC_12, WIDER[1], WIDER[2], (9, WIDER[3][1]), (10, (ring(10),)))
                 if len(members(group)) <= 24)
UP_TO_60 = tuple(group for group in SMALL + WIDER + (QUATERNIONS, ALTERNATING_5, THIRTY, FIFTY_SIX, HEISENBERG, DICYCLIC_12)
                 if len(members(group)) <= 60)
GREAT = (symmetric(5), LINEAR_168, (8, symmetric(5)[1] and tuple(p + (5, 6, 7) for p in symmetric(5)[1]) + (cyc(8, (5, 6, 7)),)))
# Groups with more than 2000 elements.
TOO_GREAT = (symmetric(7), symmetric(12))


def one_of(group):
    return tuple(range(group[0]))


def conj(p, g):
    return times(times(turned(g), p), g)


def comm(p, q):
    return times(times(turned(p), turned(q)), times(p, q))


def order_of(p):
    power, many = p, 1
    while power != tuple(range(len(p))):
        power, many = times(power, p), many + 1
    return many


_FOUND = {}


def all_subgroups(group):
    """All subgroups as element lists: the cyclic ones, and what pairs of subgroups make, again and again."""
    if group not in _FOUND:
        _FOUND[group] = find_subgroups(group)
    return list(_FOUND[group])


def find_subgroups(group):
    degree = group[0]
    rows = members(group)
    found = {tuple(closure(degree, (p,))) for p in rows}
    cyclic = sorted(found)
    fresh = sorted(found)
    while fresh:
        wider = set()
        for part in fresh:
            known = set(part)
            for other in cyclic:
                if not known.issuperset(other):
                    wider.add(tuple(closure(degree, generators_of(degree, part) + generators_of(degree, other))))
        fresh = sorted(wider - found)
        found |= wider
    return sorted(found, key=lambda part: (len(part), part))


def generators_of(degree, part):
    """Some elements that make all elements of a part."""
    made, chosen = {tuple(range(degree))}, ()
    for p in part:
        if p not in made:
            chosen += (p,)
            made = set(closure(degree, chosen))
    return chosen


def as_group(part):
    """An element list as a group."""
    return (len(part[0]), generators_of(len(part[0]), part))


def is_closed(part):
    known = set(part)
    return all(times(p, q) in known for p in part for q in part)


def is_normal_in(part, rows):
    known = set(part)
    return all(conj(p, g) in known for p in part for g in rows)


def normal_ones(group):
    rows = members(group)
    return [part for part in all_subgroups(group) if is_normal_in(part, rows)]


def pairs_of(values):
    return itertools.product(values, repeat=2)
