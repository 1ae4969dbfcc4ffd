"""Searches for permutations by the images of points, one behind the other (C. Sims, 1971)."""

from stronggens.forests import few
from stronggens.quick import compose, invert, unit
from stronggens.tours import fixing, orbit_of
from stronggens.towers import tower_of


class Inside:
    """The rule that a permutation is an element of a group, for the images of all points in some order."""

    def __init__(self, group, points):
        self.floors = tower_of(group, points).floors
        self.one = unit(group[0])

    def opening(self):
        """Return the inverse of an element that carries the points as told so far: of the identity."""
        return self.one

    def after(self, known, depth, image):
        """Return the inverse of an element that carries one point more as told, None if there is none."""
        floor = self.floors[depth]
        before = known[image]
        return compose(known, floor.back[before]) if before in floor.back else None


class Alike:
    """The rule that permutations carry some to others by conjugation, for the images of all points in some order."""

    def __init__(self, some, others, points):
        self.points = points
        self.pairs = []
        for p, q in zip(some, others):
            self.pairs.append((p, q))
            self.pairs.append((invert(p), invert(q)))

    def opening(self):
        """Return the empty dict of images."""
        return {}

    def after(self, known, depth, image):
        """Return the dict of the images with one more, None if it cannot follow."""
        grown = {**known, self.points[depth]: image}
        for p, q in self.pairs:
            target = p[self.points[depth]]
            if target in grown and grown[target] != q[image]:
                return None
        return grown


class Renaming:
    """The rule that points that are joined, and no others, go to joined points, for all points in some order."""

    def __init__(self, neighbors, others, points):
        self.neighbors = neighbors
        self.others = others
        self.points = points

    def opening(self):
        """Return the empty dict of images."""
        return {}

    def after(self, known, depth, image):
        """Return the dict of the images with one more, None if it cannot follow."""
        near, away = self.neighbors[self.points[depth]], self.others[image]
        if len(near) != len(away):
            return None
        for point, target in known.items():
            if target == image or (point in near) != (target in away):
                return None
        return {**known, self.points[depth]: image}


class Search:
    """The permutations that fit some rules, by the images of all points in some order."""

    def __init__(self, points, rules):
        self.points = points
        self.rules = rules

    def begun(self):
        """Return what the rules know when no image is told."""
        return [rule.opening() for rule in self.rules]

    def grown(self, states, depth, image):
        """Return what the rules know when one more image is told, None if it cannot follow."""
        found = []
        for rule, known in zip(self.rules, states):
            more = rule.after(known, depth, image)
            if more is None:
                return None
            found.append(more)
        return found

    def first(self, states, images, movers):
        """Return a fitting permutation by which the first points have the images told, None if there is none.

        The movers fix these images, and with each fitting permutation its product with a mover fits.
        """
        depth = len(images)
        if depth == len(self.points):
            return tuple([image for _, image in sorted(zip(self.points, images))])
        failed = set()
        for image in range(len(self.points)):
            states_after = None if image in failed else self.grown(states, depth, image)
            if states_after is not None:
                p = self.first(states_after, images + (image,), self.still(movers, image))
                if p is not None:
                    return p
                # What movers make of an image that leads nowhere leads nowhere, too.
                for other in orbit_of(movers, image):
                    failed.add(other)
        return None

    def still(self, movers, point):
        """Return generators of the group of what the movers make and that fixes a point."""
        return fixing(len(self.points), movers, point) if movers else movers

    def any_one(self, movers):
        """Return a fitting permutation, None if there is none; the products with movers fit, too."""
        return self.first(self.begun(), (), movers)

    def generated(self):
        """Return few generators of the group of all fitting permutations; they must form a group."""
        trail = [self.begun()]
        for depth, point in enumerate(self.points):
            trail.append(self.grown(trail[-1], depth, point))
        made = []
        for depth in reversed(range(len(self.points))):
            made = self.widened(trail[depth], depth, made)
        return made

    def widened(self, states, depth, made):
        """Return generators of the group that fixes the first points, from those of the one that fixes one more."""
        done = set()
        done.add(self.points[depth])
        for image in range(len(self.points)):
            # What made carries the point to, and what it makes of an image that leads nowhere, needs no search.
            if not any([other in done for other in orbit_of(made, image)]):
                p = self.behind(states, depth, image, made)
                if p is None:
                    done.add(image)
                else:
                    made = few([*made, p])
        return made

    def behind(self, states, depth, image, made):
        """Return a fitting permutation that fixes the first points and carries the next one to an image, or None."""
        states_after = self.grown(states, depth, image)
        if states_after is None:
            return None
        return self.first(states_after, tuple(self.points[:depth] + [image]), self.still(made, image))


def common_generators(group, other):
    """Return few generators of the group of the elements that two groups of one degree both have."""
    points = list(range(group[0]))
    return Search(points, [Inside(group, points), Inside(other, points)]).generated()
