"""G-sets: those of cosets, what fixes their points, and which of them are isomorphic."""

from stronggens.actions import (
    MOST_ELEMENTS, MOST_SIZE, acts, check_acting, check_gset, fixed_by, images_by, is_moving, spread,
)
from stronggens.checks import check_group, check_point
from stronggens.errors import TooMany
from stronggens.mappings import factor_group
from stronggens.members import check_most, check_subgroup, order_of
from stronggens.tours import orbit_list
from stronggens.towers import listed


def is_gset(group, value):
    """Tell whether any value is a G-set of a group."""
    check_group(group)
    return is_moving(len(group[1]), value) and acts(group, value)


def coset_set(group, subgroup):
    """Return the G-set of the cosets of a subgroup, numbered by their least elements."""
    check_acting(group)
    check_most(group, MOST_ELEMENTS)
    check_group(subgroup)
    check_subgroup(group, subgroup)
    if order_of(group) > MOST_SIZE * order_of(subgroup):
        raise TooMany(MOST_SIZE)
    return factor_group(group[1], listed(group, MOST_ELEMENTS), listed(subgroup, MOST_ELEMENTS))[1]


def fixed_points(group, gset, subgroup):
    """Return the ascending tuple of the points that the images of all elements of a subgroup fix."""
    _check(group, gset)
    check_group(subgroup)
    check_subgroup(group, subgroup)
    images = images_by(group, gset)
    return tuple(fixed_by([images[p] for p in subgroup[1]], len(gset[0])))


def stabilizer_of(group, gset, point):
    """Return the element list of the elements whose images fix a point."""
    _check(group, gset)
    check_point(len(gset[0]), point)
    return _fixing(images_by(group, gset), point)


def same_gsets(group, one, other):
    """Return an isomorphism from one G-set to another, None if there is none."""
    _check(group, one)
    check_gset(group, other)
    if len(one[0]) != len(other[0]):
        return None
    images = {}
    taken = set()
    for row in orbit_list(len(one[0]), one):
        found = _copies(one, other, row, [x for x in range(len(other[0])) if x not in taken])
        if not found:
            return None
        for point, image in found[0].items():
            images[point] = image
            taken.add(image)
    return tuple([images[x] for x in range(len(images))])


def gset_difference(group, one, other):
    """Return a subgroup that fixes unlike numbers of points, with these numbers; None for isomorphic G-sets."""
    _check(group, one)
    check_gset(group, other)
    some, others = images_by(group, one), images_by(group, other)
    seen = set()
    # Of the stabilizers whose classes the two have unlike often, a greatest one tells them apart.
    for gset, images in ((one, some), (other, others)):
        for row in orbit_list(len(gset[0]), gset):
            part = _fixing(images, row[0])
            if part not in seen:
                seen.add(part)
                a = len(fixed_by([some[p] for p in part], len(one[0])))
                b = len(fixed_by([others[p] for p in part], len(other[0])))
                if a != b:
                    return part, a, b
    return None


def same_characters(group, one, other):
    """Tell whether the image of each element fixes as many points of one as of other."""
    _check(group, one)
    check_gset(group, other)
    some, others = images_by(group, one), images_by(group, other)
    return all([len(fixed_by([some[p]], len(one[0]))) == len(fixed_by([others[p]], len(other[0]))) for p in some])


def _check(group, gset):
    check_group(group)
    check_most(group, MOST_ELEMENTS)
    check_gset(group, gset)


def _fixing(images, point):
    """Return the element list of the elements whose images fix a point."""
    return tuple(sorted([p for p, image in images.items() if image[point] == point]))


def _copies(one, other, row, points):
    """Return the ways to carry an orbit one to one, its first point to one of some points."""
    found = [spread(one, other, row[0], point) for point in points]
    return [images for images in found if images is not None and len(set(list(images.values()))) == len(row)]
