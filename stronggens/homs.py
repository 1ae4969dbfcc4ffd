"""Homomorphisms that are told by images of generators, and factor groups."""

from stronggens.checks import MOST_DEGREE, is_program, is_tuple_of
from stronggens.errors import BadImages, NotExtending, TooMany
from stronggens.frames import Frame, all_parts, mask_of
from stronggens.mappings import Mapping, factor_group, first_no_image
from stronggens.members import check_element, check_groups, check_most, check_normal, check_subgroup, order_of
from stronggens.programs import run_program, spelled
from stronggens.quick import compose, unit
from stronggens.spans import Span
from stronggens.towers import listed

MOST_LISTED = 2000
MOST_PARTS = 60


def extends(source, target, images):
    """Tell whether a homomorphism carries each generator of the source to its image."""
    return map_gap(source, target, images) is None


def map_gap(source, target, images):
    """Return a program whose value is the identity, but not with the images; None if the images extend."""
    _check_images(source, target, images)
    told = _mapping(source, target, images, MOST_LISTED)
    if told.gap is None:
        return None
    p, index = told.gap
    back = told.word(compose(p, source[1][index]))
    return spelled(told.word(p) + (index + 1,) + tuple([-letter for letter in reversed(back)]))


def shows_not(source, target, images, value):
    """Tell whether any value is a program whose value is the identity, but not with the images."""
    _check_images(source, target, images)
    if not is_program(len(source[1]), value):
        return False
    if run_program(source, value) != unit(source[0]):
        return False
    return run_program((target[0], images), value) != unit(target[0])


def carried(source, target, images, p):
    """Return the element to which the homomorphism carries an element of the source."""
    _check_images(source, target, images)
    check_element(source, p)
    return _extended(source, target, images, MOST_LISTED).table[p]


def kernel(source, target, images):
    """Return the kernel of the homomorphism."""
    _check_images(source, target, images)
    told = _extended(source, target, images, MOST_LISTED)
    return Span(source[0], told.over([unit(target[0])])).group()


def image_group(source, target, images):
    """Return the image of the homomorphism."""
    _check_images(source, target, images)
    told = _extended(source, target, images, MOST_LISTED)
    return Span(target[0], list(told.table.values())).group()


def preimage(source, target, images, q):
    """Return the ascending tuple of the elements that the homomorphism carries to an element of the target."""
    _check_images(source, target, images)
    check_element(target, q)
    return tuple(sorted(_extended(source, target, images, MOST_LISTED).over([q])))


def quotient(group, normal):
    """Return the group, generator by generator, that moves the cosets of a normal subgroup."""
    check_groups(group, normal)
    check_subgroup(group, normal)
    check_normal(group, normal)
    rows = listed(group, MOST_LISTED)
    if len(rows) > MOST_DEGREE * order_of(normal):
        raise TooMany(MOST_DEGREE)
    return factor_group(group[1], rows, listed(normal, MOST_LISTED))


def above_kernel(source, target, images):
    """Return the list of the subgroups that contain the kernel, each with its image."""
    _check_images(source, target, images)
    told = _extended(source, target, images, MOST_PARTS)
    frame = Frame(listed(source, MOST_PARTS))
    bottom = mask_of([frame.numbers[p] for p in told.over([unit(target[0])])])
    above = [frame.written(part) for part in all_parts(frame) if part.mask & bottom == bottom]
    return [(part, tuple(sorted(set([told.table[p] for p in part])))) for part in above]


def _check_images(source, target, images):
    check_groups(source, target)
    if not is_tuple_of(images, len(source[1])):
        raise BadImages(None)
    index = first_no_image(target, images)
    if index is not None:
        raise BadImages(index)


def _mapping(source, target, images, most):
    check_most(source, most)
    return Mapping(source[0], target[0], source[1], images)


def _extended(source, target, images, most):
    told = _mapping(source, target, images, most)
    if told.gap is not None:
        raise NotExtending("the images do not extend to a homomorphism")
    return told
