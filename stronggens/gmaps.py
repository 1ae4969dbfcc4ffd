"""Products of G-sets, maps between them, and what they become for a subgroup and for a greater group."""

from stronggens.actions import MOST_ELEMENTS, MOST_SIZE, check_acting, check_gset, images_by, spread
from stronggens.checks import check_group
from stronggens.errors import TooMany
from stronggens.mappings import factor_points
from stronggens.members import check_most, check_subgroup
from stronggens.quick import compose, invert
from stronggens.tours import orbit_list
from stronggens.towers import listed

MOST_MAPS = 2000


def gset_product(group, one, other):
    """Return the G-set of the pairs of a point of one and a point of other."""
    check_acting(group)
    check_most(group, MOST_ELEMENTS)
    check_gset(group, one)
    check_gset(group, other)
    many = len(other[0])
    if len(one[0]) * many > MOST_SIZE:
        raise TooMany(MOST_SIZE)
    return tuple([tuple([x * many + y for x in p for y in q]) for p, q in zip(one, other)])


def map_count(group, one, other):
    """Return the number of the equivariant maps from one G-set to another."""
    _check_two(group, one, other)
    return _count(_choices(one, other))


def maps_of(group, one, other):
    """Return the ascending list of all equivariant maps from one G-set to another."""
    _check_two(group, one, other)
    choices = _choices(one, other)
    many = _count(choices)
    if many > MOST_MAPS:
        raise TooMany(MOST_MAPS)
    if many == 0:
        return []
    found = [{}]
    for row in choices:
        found = [{**images, **more} for images in found for more in row]
    return sorted([tuple([images[x] for x in range(len(one[0]))]) for images in found])


def restricted(group, gset, subgroup):
    """Return the G-set of a subgroup that has the images of the subgroup's generators."""
    check_group(group)
    check_most(group, MOST_ELEMENTS)
    check_gset(group, gset)
    check_acting(subgroup)
    check_subgroup(group, subgroup)
    images = images_by(group, gset)
    return tuple([images[p] for p in subgroup[1]])


def induced(group, subgroup, gset):
    """Return the G-set of the pairs of a coset of a subgroup and a point of a G-set of the subgroup."""
    check_acting(group)
    check_most(group, MOST_ELEMENTS)
    check_group(subgroup)
    check_subgroup(group, subgroup)
    check_gset(subgroup, gset)
    rows, below = listed(group, MOST_ELEMENTS), listed(subgroup, MOST_ELEMENTS)
    many = len(gset[0])
    if len(rows) * many > MOST_SIZE * len(below):
        raise TooMany(MOST_SIZE)
    numbers = factor_points(rows, below)
    leaders = {}
    for p in rows:
        leaders.setdefault(numbers[p], p)
    images = images_by(subgroup, gset)
    moves = []
    for s in group[1]:
        move = []
        for leader in leaders.values():
            p = compose(leader, s)
            carry = images[compose(p, invert(leaders[numbers[p]]))]
            move.extend([numbers[p] * many + carry[x] for x in range(many)])
        moves.append(tuple(move))
    return tuple(moves)


def _check_two(group, one, other):
    check_group(group)
    check_most(group, MOST_ELEMENTS)
    check_gset(group, one)
    check_gset(group, other)


def _choices(one, other):
    """Return, for each orbit of one, the list of the ways to carry it to other."""
    rows = []
    for orbit in orbit_list(len(one[0]), one):
        found = [spread(one, other, orbit[0], image) for image in range(len(other[0]))]
        rows.append([images for images in found if images is not None])
    return rows


def _count(choices):
    """Return in how many ways one can be taken from each list."""
    many = 1
    for row in choices:
        many = many * len(row)
    return many
