"""Towers: for a group, the levels of fixed points with a permutation for each image (C. Sims, 1970)."""

from stronggens.checks import check_group
from stronggens.errors import TooMany
from stronggens.quick import compose, unit
from stronggens.tapes import Tape


class Floor:
    """A point, generators, and for each image of the point a permutation forth to it and its inverse back."""

    def __init__(self, point, one):
        self.point = point
        self.generators = []
        self.forth = {point: one}
        self.back = {point: one}
        self.pending = []

    def take(self, p):
        """Add a generator."""
        self.generators.append(p)
        self.pending.extend([(image, p) for image in self.forth])

    def reach(self, image, carry, turned):
        """Add an image."""
        self.forth[image] = carry
        self.back[image] = turned
        self.pending.extend([(image, p) for p in self.generators])


class Tower:
    """A floor for each point of a row of points: each one has the group that fixes the points ahead of its own.

    It is blind if some element but the identity fixes all of these points; such elements are left out.
    """

    def __init__(self, degree, generators, points):
        self.one = unit(degree)
        self.is_blind = False
        self.tape = Tape(self.one, generators)
        self.floors = [Floor(point, self.one) for point in points]
        for p in generators:
            self.take(p, 0)
            self.settle()

    def sift(self, p, start=0):
        """Return (what is left of p, the floor that holds it up, the factors by which p was multiplied)."""
        factors = []
        for at in range(start, len(self.floors)):
            floor = self.floors[at]
            image = p[floor.point]
            if image not in floor.back:
                return p, at, factors
            if image != floor.point:
                factors.append(floor.back[image])
                p = compose(p, floor.back[image])
        return p, len(self.floors), factors

    def take(self, p, start):
        """Have p, which is on the tape and fixes the points of the floors ahead, among the products of the floors."""
        rest, at, factors = self.sift(p, start)
        if rest == self.one:
            return
        if at == len(self.floors):
            self.is_blind = True
            return
        for factor in factors:
            p = self.tape.times(p, factor)
        for floor in self.floors[start:at + 1]:
            floor.take(p)

    def settle(self):
        """Close the orbits, and have all that leads back to a floor's point among the products of the floors above."""
        at = len(self.floors) - 1
        while at >= 0:
            if self.floors[at].pending:
                self.try_pair(at)
                at = len(self.floors) - 1
            else:
                at -= 1

    def try_pair(self, at):
        """Follow one pending generator from one image of a floor."""
        floor = self.floors[at]
        image, p = floor.pending.pop()
        target = p[image]
        if target not in floor.forth:
            carry = self.tape.times(floor.forth[image], p)
            floor.reach(target, carry, self.tape.turned(carry))
            return
        loop = compose(compose(floor.forth[image], p), floor.back[target])
        # Most of these loops are products of the floors already, and are not worth a place on the tape.
        if self.sift(loop, at + 1)[0] != self.one:
            loop = self.tape.times(self.tape.times(floor.forth[image], p), floor.back[target])
            self.take(loop, at + 1)

    def trim(self, many):
        """Leave out the floors with a single image, but for so many first ones."""
        self.floors = self.floors[:many] + [floor for floor in self.floors[many:] if len(floor.forth) > 1]

    def holds(self, p):
        """Tell whether a permutation is an element of the group."""
        return self.sift(p)[0] == self.one

    def sizes(self):
        """Return the list of the numbers of images of the floors."""
        return [len(floor.forth) for floor in self.floors]

    def order(self):
        """Return the number of elements of the group."""
        number = 1
        for size in self.sizes():
            number = number * size
        return number


def tower_of(group, first=()):
    """Return the tower of a group over some points, in their order, and then all others, ascending."""
    degree, generators = group
    others = [point for point in range(degree) if point not in first]
    return Tower(degree, generators, [*first, *others])


def listed(group, most):
    """Return the ascending tuple of the elements of a group; TooMany if there are more than so many."""
    check_group(group)
    tower = tower_of(group)
    if tower.order() > most:
        raise TooMany(most)
    rows = [tower.one]
    for floor in reversed(tower.floors):
        rows = [compose(p, carry) for p in rows for carry in floor.forth.values()]
    return tuple(sorted(rows))
