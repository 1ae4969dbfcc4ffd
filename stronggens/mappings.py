"""Maps of groups that are told by images of generators, without checks."""

from stronggens.checks import is_permutation
from stronggens.quick import compose, conjugated, period, unit
from stronggens.spans import Span
from stronggens.towers import tower_of
from stronggens.tours import reached


class Mapping:
    """The image of each element of a group, if images of the generators extend to its elements.

    The road of an element is the pair of the element and the generator by which it was found. The gap is None if the
    images extend, otherwise an element and a generator whose product does not have the product of their images.
    """

    def __init__(self, degree, other, generators, images):
        first = unit(degree)
        self.table = {first: unit(other)}
        self.roads = {first: None}
        self.gap = None
        queue = [first]
        at = 0
        while at < len(queue) and self.gap is None:
            for index, g in enumerate(generators):
                p = compose(queue[at], g)
                image = compose(self.table[queue[at]], images[index])
                if p not in self.table:
                    self.table[p] = image
                    self.roads[p] = (queue[at], index)
                    queue.append(p)
                elif self.table[p] != image and self.gap is None:
                    self.gap = (queue[at], index)
            at += 1

    def is_injective(self):
        """Tell whether no two elements have one image."""
        return len(set(list(self.table.values()))) == len(self.table)

    def word(self, p):
        """Return letters, all of them positive, whose product is an element."""
        letters = []
        while self.roads[p] is not None:
            p, index = self.roads[p]
            letters.append(index + 1)
        return tuple(reversed(letters))

    def over(self, images):
        """Return the list of the elements that have one of some images."""
        return [p for p, image in self.table.items() if image in images]


def first_no_image(target, images):
    """Return the index of the first value that is not an element of the target, None if all are."""
    tower = tower_of(target)
    for index, p in enumerate(images):
        if not is_permutation(target[0], p) or not tower.holds(p):
            return index
    return None


def isomorphisms(one, other, most):
    """Return the tuples of the images of the generators of one by isomorphisms to other, no more than so many."""
    rows = Span(other[0], other[1]).listed()
    if len(Span(one[0], one[1]).rows) != len(rows):
        return []
    found = []
    pending = [()]
    while pending and len(found) < most:
        images = pending.pop()
        if len(images) == len(one[1]):
            found.append(images)
        else:
            pending.extend(_longer(one, other, rows, images))
    return found


def _longer(one, other, rows, images):
    """Return what one image more, by which elements go one to one, can make of images of first generators."""
    g = one[1][len(images)]
    ahead = Mapping(one[0], other[0], one[1][:len(images)], images).table
    if g in ahead:
        return [images + (ahead[g],)]
    found = []
    for p in rows:
        if period(p) == period(g):
            told = Mapping(one[0], other[0], one[1][:len(images) + 1], images + (p,))
            if told.gap is None and told.is_injective():
                found.append(images + (p,))
    return found


def class_lists(generators, rows):
    """Return the list of the classes of conjugate elements, by their least elements."""
    found = []
    seen = set()
    for p in rows:
        if p not in seen:
            told = sorted(reached(p, generators, conjugated))
            for q in told:
                seen.add(q)
            found.append(tuple(told))
    return found


def factor_points(rows, below):
    """Return a dict from each element to the number of its coset of a normal subgroup, by least elements."""
    numbers = {}
    many = 0
    for p in rows:
        if p not in numbers:
            for h in below:
                numbers[compose(h, p)] = many
            many += 1
    return numbers


def factor_group(generators, rows, below):
    """Return the group, generator by generator, that moves the cosets of a normal subgroup."""
    numbers = factor_points(rows, below)
    leaders = {}
    for p in rows:
        leaders.setdefault(numbers[p], p)
    moves = [tuple([numbers[compose(p, g)] for p in leaders.values()]) for g in generators]
    return len(leaders), tuple(moves)
