"""Double cosets of two groups."""

from stronggens.checks import check_group, check_permutation, check_two_groups
from stronggens.errors import BadDegree
from stronggens.members import check_subgroup
from stronggens.programs import spelled
from stronggens.quick import compose
from stronggens.tours import reached
from stronggens.towers import listed

MOST_LISTED = 2000


def double_coset(left, right, p):
    """Return the least permutation of a double coset, and the number of its permutations."""
    check_two_groups(left, right)
    check_permutation(left[0], p)
    return _told(_roads(left, right, p))


def double_path(left, right, p, q):
    """Return programs for elements of left and right between which p makes q, None if there are none."""
    check_two_groups(left, right)
    check_permutation(left[0], p)
    check_permutation(left[0], q)
    roads = _roads(left, right, p)
    if q not in roads:
        return None
    before, behind = [], []
    while roads[q] is not None:
        q, index = roads[q]
        # From the last step to the first one: what stands before p is found from left to right.
        if index < len(left[1]):
            before.append(index + 1)
        else:
            behind.append(index - len(left[1]) + 1)
    return spelled(tuple(before)), spelled(tuple(reversed(behind)))


def double_cosets(group, left, right):
    """Return the ascending tuple of the least permutations and the numbers of the double cosets in a group."""
    check_group(group)
    for part in (left, right):
        check_group(part)
        if part[0] != group[0]:
            raise BadDegree("the degrees of the groups differ")
        check_subgroup(group, part)
    found = []
    seen = set()
    for p in listed(group, MOST_LISTED):
        if p not in seen:
            roads = _roads(left, right, p)
            found.append(_told(roads))
            for q in roads:
                seen.add(q)
    return tuple(found)


def _roads(left, right, p):
    """Return a dict of the permutations of a double coset; the moves are the generators of left, then of right."""
    moves = [(True, g) for g in left[1]] + [(False, g) for g in right[1]]
    return reached(p, moves, _moved, MOST_LISTED)


def _moved(p, move):
    is_left, g = move
    return compose(g, p) if is_left else compose(p, g)


def _told(roads):
    return min(roads), len(roads)
