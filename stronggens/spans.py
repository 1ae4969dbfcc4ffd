"""Subgroups by lists of their elements, without checks."""

from stronggens.quick import compose, conjugated, invert, unit


class Span:
    """The elements of the group that some permutations generate, and those of them that were needed for it."""

    def __init__(self, degree, perms=()):
        one = unit(degree)
        self.rows = [one]
        self.known = {one: True}
        self.generators = []
        for p in perms:
            self.take(p)

    def holds(self, p):
        """Tell whether a permutation is one of the elements."""
        return p in self.known

    def holds_all(self, perms):
        """Tell whether all of these permutations are among the elements."""
        return all(p in self.known for p in perms)

    def take(self, p):
        """Have p, and all that it makes together with the elements, among the elements."""
        if p in self.known:
            return
        self.generators.append(p)
        part = list(self.rows)
        # The elements fall into sets of products with the elements so far, each told by the first one found.
        leaders = [part[0]]
        at = 0
        while at < len(leaders):
            for g in self.generators:
                q = compose(leaders[at], g)
                if q not in self.known:
                    leaders.append(q)
                    for h in part:
                        self.rows.append(compose(h, q))
                        self.known[self.rows[-1]] = True
            at += 1

    def close(self, movers):
        """Have all conjugates of the elements by the movers, again and again, among the elements."""
        at = 0
        while at < len(self.generators):
            for g in movers:
                self.take(conjugated(self.generators[at], g))
            at += 1

    def listed(self):
        """Return the ascending tuple of the elements."""
        return tuple(sorted(self.rows))

    def group(self):
        """Return the group of the elements."""
        return len(self.rows[0]), tuple(self.generators)


def normal_span(degree, movers, perms):
    """Return the span of some permutations and all their conjugates by the movers."""
    span = Span(degree, perms)
    span.close(movers)
    return span


def commutators(some, others):
    """Return the list of the commutators of each permutation of some with each of others."""
    return [compose(invert(p), conjugated(p, q)) for p in some for q in others]


def is_element(span, value):
    """Tell whether any value is an element of a span."""
    degree = len(span.rows[0])
    if type(value) is not tuple or len(value) != degree or not all(type(x) is int for x in value):
        return False
    return value in span.known


def is_element_list(span, value):
    """Tell whether any value is the element list of a subgroup of a span."""
    if type(value) is not tuple or value == () or not all([is_element(span, p) for p in value]):
        return False
    if list(value) != sorted(set(value)):
        return False
    part = Span(len(value[0]))
    for p in value:
        # As soon as there are more elements than told, the rest is not needed.
        if len(part.rows) <= len(value):
            part.take(p)
    return part.listed() == value
