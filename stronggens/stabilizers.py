"""Stabilizers of whatever a group moves, if it has not too many images."""

from stronggens.forests import few
from stronggens.quick import compose, invert, unit
from stronggens.tours import reached
from stronggens.towers import tower_of


def act_on_set(points, p):
    """Return the ascending tuple of the images of the points of a set."""
    return tuple(sorted([p[point] for point in points]))


def generators_fixing(group, start, act):
    """Return few generators of the subgroup of the elements that take start to itself."""
    degree, generators = group
    roads = reached(start, generators, act)
    carries = {}
    for image, road in roads.items():
        carries[image] = unit(degree) if road is None else compose(carries[road[0]], generators[road[1]])
    size = tower_of(group).order() // len(carries)
    part = tower_of((degree, ()))
    kept = []
    for image, carry in carries.items():
        for p in generators:
            # Most of the products that lead back to start are not needed.
            if part.order() < size:
                loop = compose(compose(carry, p), invert(carries[act(image, p)]))
                if not part.holds(loop):
                    kept = few([*kept, loop])
                    part = tower_of((degree, kept))
    return kept
